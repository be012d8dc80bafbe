import Derived.Test.YtjnbhiamaabbgabGreatDoorM13
import Derived.Stop.Asserts
import Derived.Lib.LaidTab
import Derived.Test.YtjnbhiamaabbgabGreatDoorCards
import Derived.Test.YtjnbhiamaabbgabGreatDoorTie
import Derived.Conc.LeavingOf
import Derived.OpenShut
import Derived.Deep.DeepHandedRow
import Derived.Stop.LaidTwo
set_option linter.all false
set_option maxRecDepth 100000
set_option maxHeartbeats 8000000
namespace Go.Proofs.YtjnbhiamaabbgabGreatDoor
open Bool renaming false->bK,true->bL
open Go renaming Calls->bE,execOp->bG,results->aN
open Go.Frame renaming enter->bF
open Go.Proofs.Tryz renaming prog->bM
open Option renaming none->bN,some->bO
open _root_.Array renaming replicate->aW
namespace P
open A.Tryq Go.RowKit A
variable [pn:A.Pn]
attribute [local go_sem] xe zv
section
variable {lo B b:Nat} {cv tv:Zv} {s:Jo} {k:gZ} {r:Sr} {w:Zy}
structure Pl(cv tv:Zv)(lo B b:Nat)(r:Sr)(s:Jo)(k:gZ)(w:Zy):Prop where
 st:Jq w B r
 bk:W6 w b k
 sn:r.sn=bO s
 inv:Wy r s
 fI:Bk r s k
 own:∀x,r.own B x->lo<=x
 l4:2<lo
 bl:lo<=b
 wC:iA cv tv w
theorem Pl.size(h:Pl cv tv lo B b r s k w):lo<w.heap.size:=Nat.lt_of_le_of_lt h.bl h.bk.blk.lt
def Pl.nw{w w':Zy}(h:Pl cv tv lo B b r s k w)(n:Nw w w'):Pl cv tv lo B b r s k w':=
 ⟨h.st.but n fun _ _=>id,⟨h.bk.blk.but n id,h.bk.kept.but n fun _ _ _=>id,h.bk.seen.but n fun _ _ _=>id⟩,h.sn,h.inv,h.fI,h.own,h.l4,h.bl,h.wC.but (S:=fun _=>False) n fun _ x=>x.elim⟩
def Pl.ok(h:Pl cv tv lo B b r s k w):fV B r:=fV.of h.inv (.inl h.sn) fun x a=>by have:=h.own x a;have:=h.l4;omega
def Pl.to{r r':Sr}{s s':Jo}{k k':gZ}{w w' w2:Zy}(h:Pl cv tv lo B b r s k w)(t:jt B r w r' w')(f:xb (·=b) w' w2)(hk:W6 w2 b k')(j:r'.sn=bO s')(i:Wy r' s')(g:Bk r' s' k'):Pl cv tv lo B b r' s' k' w2:=by
 have d:¬r'.own B b:=fun a=>(t.at_.dX a<|h.st |> fun _=>(jt.fI h.st t h.bk).blk).2 rfl;have l:=h.size;refine⟨t.at_.but f fun x a e=>d<|by have e:=e;rw[<-e];exact a,hk,j,i,g,fun x a=>?_,h.l4,h.bl, ?_⟩;rcases t.own x a with c|c
 exact h.own x c;omega;have c:xb (fun x=>r.own B x\/x=b) w w2:=(t.but.mono fun _ h=> .inl h).trans<|f.mono fun _ h=> .inr h;refine h.wC.but c fun x a=>?_;have:=h.l4;rcases a with a|a
 have:=h.own x a;omega;have:=h.bl;omega
def Pl.old{r r':Sr}{w w' w2:Zy}(h:Pl cv tv lo B b r s k w)(t:jt B r w r' w')(c:xb (·=b) w' w2):xb (fun x=>lo<=x) w w2:=
 (t.but.mono fun x a=>h.own x a).trans (c.mono fun x a=>by have a:=a;rw[a];exact h.bl)
def jH(kd N M:Int)(S T:Zl):Zv:= .agg #[.int .i64 kd,.int .i64 N,.int .i64 M,.string<|st S,.string<|st T]
def iY(cv tv:Zv)(lo B b:Nat)(r:Sr)(s:Jo)(w:Zy)(e:Ending)(w':Zy):Prop:=
 e= .returned (.bool bL)/\xb (fun x=>lo<=x) w w'/\∃r' s' k',Pl cv tv lo B b r' s' k' w'/\r'.cnt<=r.cnt+2/\r'.op<=r.op+1/\s'.bP<=s.bP+1
def SR(N M:Int)(S T:Zl)(h:Pl cv tv lo B b r s k w)(y:r.cnt<=29):
  bE prog 21 #[zo b,zo B,jH 5 N M S T] w (iY cv tv lo B b r s w):=by
 have m:Hid<|Nw w<|w.alloc<|.cells #[zi 5,zi N,zi M,zs S,zs T] 47:=Nw.alloc _ _;have a:=zl<|h.nw m.o;clear h;unfold jH;go_enter func21.1,Tryz.ntmps21
 go_wp2_with fail
 generalize w.alloc (.cells #[zi 5,zi N,zi M,zs S,zs T] 47)=w1 at*;obtain⟨q,j⟩:=a.o.inv.sync a.o.sn (by omega);have f:=zl j;have c:=j.run;refine(vA B r s _ a.o.st a.o.sn a.o.ok a.o.wC a.o.inv.P<|by rw[c];simp).mono ?_;rintro e C ⟨v,z,n,rfl,i⟩;rw[c]at n;cases n;have T2:=zl i;have p:=zl<|jt.fI a.o.st i a.o.bk;have l:k.recs<=1000000:=by have:=a.o.fI.recs;omega
 clear i j c
 go_wp2_with fail
 refine(QV b k l _ p.o).mono ?_;rintro e t ⟨rfl,d,g⟩;have o:Hid<|iY cv tv lo B b r s w (.returned<|.bool bL) t:=by
  refine⟨rfl,((m.o.mono fun _ x=>x.elim).trans<|a.o.old T2.o d),q,r.ses1 s,k.synced,a.o.to T2.o d g f.o.sn f.o.inv<|QU a.o.fI f.o, ?_, ?_, ?_⟩;rw[f.o.cnt];split<;>omega
  rw[f.o.keep.op];omega;rw[f.o.bP];omega
 clear d g
 go_wp2_with fail
 go_ret
 exact o.o
def SJ(N M:Int)(S T:Zl)(h:Pl cv tv lo B b r s k w)(m:r.cnt<=29):
  bE prog 21 #[zo b,zo B,jH 4 N M S T] w (iY cv tv lo B b r s w):=by
 have f:Hid<|Nw w<|w.alloc<|.cells #[zi 4,zi N,zi M,zs S,zs T] 47:=Nw.alloc _ _;have a:=zl<|h.nw f.o;clear h;unfold jH;go_enter func21.1,Tryz.ntmps21;have l:(w.alloc<|.cells #[zi 4,zi N,zi M,zs S,zs T] 47).cell? (zq b 1)=bO k.sv:=a.o.bk.blk.cell 1 rfl
 go_wp2_with fail
 generalize w.alloc (.cells #[zi 4,zi N,zi M,zs S,zs T] 47)=w1 at*;have c:=a.o.fI.seen;refine(Pp B r s _ k.sv _ a.o.st a.o.sn a.o.inv.P20 (fun p i=>by have:=(TF a.o.inv p i).2.1;omega) (by have:=EP a.o.inv;omega) a.o.bk.seen (by rw[c];exact(KN _).symm)<|by rw[c];exact D8 a.o.inv a.o.sn).mono ?_;rintro e j ⟨rfl,d⟩;have g:Hid<|iY cv tv lo B b r s w (.returned<|.bool bL) j:=⟨rfl,((f.o.trans d).mono fun _ x=>x.elim),r,s,k,a.o.nw d,by omega,by omega,by omega⟩;clear d c
 go_wp2_with fail
 go_ret
 exact g.o
def Hm(N M:Int)(S T:Zl)(h:Pl cv tv lo B b r s k w)(J:r.cnt<=29):
  bE prog 21 #[zo b,zo B,jH 1 N M S T] w (iY cv tv lo B b r s w):=by
 have q:Hid<|Nw w<|w.alloc<|.cells #[zi 1,zi N,zi M,zs S,zs T] 47:=Nw.alloc _ _;have X0:Hid<|xx (w.alloc<|.cells #[zi 1,zi N,zi M,zs S,zs T] 47) w.heap.size #[zi 1,zi N,zi M,zs S,zs T] 47:=xx.new _ _ _;have a:=zl<|h.nw q.o;clear h;unfold jH;go_enter func21.1,Tryz.ntmps21;have E:=X0.o.cell 0 rfl;have F:=X0.o.cell 1 rfl;have G:=X0.o.cell 2 rfl;have H:=X0.o.cell 3 rfl;have I:=X0.o.cell 4 rfl
 go_wp2_with fail
 generalize w.alloc (.cells #[zi 1,zi N,zi M,zs S,zs T] 47)=w1 at*;refine(zzw B b r s k N M S T _ a.o.st a.o.bk a.o.sn a.o.inv.P20 a.o.fI.pend<|by rw[a.o.fI.seen,KZ];have:=EP a.o.inv;omega).mono ?_;rintro e D ⟨rfl,z,y,j,d⟩;obtain⟨C,i,g,f,m,o,p⟩:=dE a.o.inv a.o.sn a.o.fI j;have t:Hid<|iY cv tv lo B b r s w (.returned<|.bool bL) D:=by
  have v:=a.o.size;have n:=a.o.l4;have l:=a.o.bl;refine⟨rfl,(q.o.mono fun _ x=>x.elim).trans<|d.but.mono fun x c=>?_,z,C,y,⟨d.st,d.bk,i,g,f,fun x c=>?_,n,l,a.o.wC.but d.but fun x c=>?_⟩,by omega,by omega,by omega⟩;rcases c with c|c
  exact a.o.own x c;omega;rcases d.own x c with c|c
  exact a.o.own x c;omega;rcases c with c|c
  have:=a.o.own x c;omega;omega
 clear j d i g f m o p
 go_wp2_with fail
 go_ret
 exact t.o
def Hj(N M:Int)(S T:Zl)(h:Pl cv tv lo B b r s k w)(J:r.cnt<=29):
  bE prog 21 #[zo b,zo B,jH 2 N M S T] w (iY cv tv lo B b r s w):=by
 have q:Hid<|Nw w<|w.alloc<|.cells #[zi 2,zi N,zi M,zs S,zs T] 47:=Nw.alloc _ _;have X0:Hid<|xx (w.alloc<|.cells #[zi 2,zi N,zi M,zs S,zs T] 47) w.heap.size #[zi 2,zi N,zi M,zs S,zs T] 47:=xx.new _ _ _;have a:=zl<|h.nw q.o;clear h;unfold jH;go_enter func21.1,Tryz.ntmps21;have E:=X0.o.cell 0 rfl;have F:=X0.o.cell 1 rfl;have G:=X0.o.cell 2 rfl;have H:=X0.o.cell 3 rfl;have I:=X0.o.cell 4 rfl
 go_wp2_with fail
 generalize w.alloc (.cells #[zi 2,zi N,zi M,zs S,zs T] 47)=w1 at*;refine(zzv B b r s k N M S T _ a.o.st a.o.bk a.o.sn a.o.inv.P20 a.o.fI.pend<|by rw[a.o.fI.seen,KZ];have:=EP a.o.inv;omega).mono ?_;rintro e D ⟨rfl,z,y,j,d⟩;obtain⟨C,i,g,f,m,o,p⟩:=dE a.o.inv a.o.sn a.o.fI j;have t:Hid<|iY cv tv lo B b r s w (.returned<|.bool bL) D:=by
  have v:=a.o.size;have n:=a.o.l4;have l:=a.o.bl;refine⟨rfl,(q.o.mono fun _ x=>x.elim).trans<|d.but.mono fun x c=>?_,z,C,y,⟨d.st,d.bk,i,g,f,fun x c=>?_,n,l,a.o.wC.but d.but fun x c=>?_⟩,by omega,by omega,by omega⟩;rcases c with c|c
  exact a.o.own x c;omega;rcases d.own x c with c|c
  exact a.o.own x c;omega;rcases c with c|c
  have:=a.o.own x c;omega;omega
 clear j d i g f m o p
 go_wp2_with fail
 go_ret
 exact t.o
def zqo{B:Nat}{r r1:Sr}{x:Nat}(f:r.sn=bO s)(S:BH r s r1)(hx:r1.own B x):r.own B x:=by
 rcases hx with e|(e|e|⟨c,b,_⟩)|⟨t,d,hx⟩;exact .inl e;exact .inr (.inl<|.inl<|by rw[<-S.keep.D];exact e);exact .inr (.inl<|.inr<|.inl<|by rw[<-S.keep.M];exact e);rw[S.inv.nx]at b;cases b;rw[S.sn]at d;cases d;refine .inr<|.inr ⟨s,f, ?_⟩;unfold Sr.ses1 at hx;split at hx;exact hx;rcases hx with e|e|⟨a,n,c,g,e⟩;exact .inl e;exact .inr<|.inl e;cases g
def Pl.ok1{r r1:Sr}(h:Pl cv tv lo B b r s k w)(S:BH r s r1):fV B r1:=fV.of S.inv (.inl S.sn) fun x a=>by have:=h.own x<|zqo h.sn S a;have:=h.l4;omega
def Hn(N M:Int)(S T:Zl)(h:Pl cv tv lo B b r s k w)(Q:r.cnt<=29):
  bE prog 21 #[zo b,zo B,jH 6 N M S T] w (iY cv tv lo B b r s w):=by
 have N0:Hid<|Nw w<|w.alloc<|.cells #[zi 6,zi N,zi M,zs S,zs T] 47:=Nw.alloc _ _;have a:=zl<|h.nw N0.o;clear h;unfold jH;go_enter func21.1,Tryz.ntmps21
 go_wp2_with fail
 generalize w.alloc (.cells #[zi 6,zi N,zi M,zs S,zs T] 47)=w1 at*;have bb:=a.o.inv.rotate a.o.sn (by omega);obtain⟨r2,O⟩:=a.o.inv.sync a.o.sn (by omega);have l:∀U,r.bW s=(bO 0,U)->fV B U:=fun U e=>by rw[O.run]at e;cases e;exact a.o.ok1 O
 have L:k.recs<=1000000:=by have:=a.o.fI.recs;omega
 have bd:k.synced.recs<=1000000:=by have:=a.o.fI.recs;show(if 0<k.pend then k.recs+1 else k.recs)<=_;split<;>omega
 have i:=a.o.fI.ep;rcases bb with⟨R,I,d,f⟩|⟨R,U,I,V,f,d,C,o,n,t,F,G,z,y⟩
 ·refine(Qo B r s _ a.o.st a.o.sn a.o.ok l a.o.wC a.o.inv.P (by have:=a.o.inv.ep;omega)<|by rw[d];simp).mono ?_
  rintro e w2 ⟨v,bc,K,rfl,E⟩;rw[d]at K;cases K;have T2:=zl E;have Z:=zl<|jt.fI a.o.st E a.o.bk;have m:=zl f;have HE:=zl<|i.trans R;clear E O f d l i R
  go_wp2_with fail
  refine(QV b k L _ Z.o).mono ?_;rintro e p ⟨rfl,j,c⟩;have c3:p.cell? (zq b 3)=bO (zi 5):=(c.blk.cell 3 rfl).trans (by show bO (zi k.ep)=_;rw[HE.o];rfl);have X:Hid<|iY cv tv lo B b r s w (.returned<|.bool bL) p:=by
   refine⟨rfl,((N0.o.mono fun _ x=>x.elim).trans<|a.o.old T2.o j),I,r.ses1 s,k.synced,a.o.to T2.o j c m.o.sn m.o.inv<|QU a.o.fI m.o, ?_, ?_, ?_⟩;rw[m.o.cnt];split<;>omega
   rw[m.o.keep.op];omega;rw[m.o.bP];omega
  clear j c
  go_wp2_with fail
  go_ret
  exact X.o
 refine(Qo B r s _ a.o.st a.o.sn a.o.ok l a.o.wC a.o.inv.P (by have:=a.o.inv.ep;omega)<|by rw[d];simp).mono ?_;rintro e w2 ⟨v,bc,K,rfl,E⟩;rw[d]at K;cases K;have T2:=zl E;have Z:=zl<|jt.fI a.o.st E a.o.bk;have bf:¬(k.ep:Int)=5:=by rw[i];omega
 have be:k.ep<=5:=by rw[i];exact a.o.inv.ep
 have J:=zl<|QU a.o.fI f;have HQ:Hid<|∀H:gZ,H.seen=k.synced.seen->H.kept=k.synced.kept->H.pend=k.synced.pend->H.ep=k.synced.ep+1->H.recs=k.synced.recs+1->Bk I V H:=fun H e1 e2 e3 e4 e5=>by
  have hn:V.now=(r.ses1 s).now:=by unfold Jo.now;rw[F,G,f.P]
  exact⟨by rw[e1,hn];exact J.o.seen,by rw[e2,F];exact J.o.kept,by rw[e3,J.o.pend,G,f.P],by rw[e4,J.o.ep,f.ep,t],by rw[e5,J.o.recs,n]⟩
 have HI:=zl o;have Y:=zl C;have W:Hid<|I.cnt<=r.cnt+2/\I.op<=r.op+1/\V.bP<=s.bP+1:=by
  refine⟨?_, ?_, ?_⟩;rw[n,f.cnt];split<;>omega
  rw[y.op];omega;rw[z];omega
 clear E O f d l i R o C n t F G z y
 go_wp2_with fail
 refine(QV b k L _ Z.o).mono ?_;rintro e p ⟨rfl,j,c⟩;have c3:p.cell? (zq b 3)=bO (zi k.ep):=c.blk.cell 3 rfl;have c4:p.cell? (zq b 4)=bO (zi k.synced.recs):=c.blk.cell 4 rfl;have f3:=c.blk.bT 3;have f4:=c.blk.bT 4;have i1:IntKind.i64.wrap ((k.ep:Int)+1)=(k.ep:Int)+1:=by rw[xn];omega
 have i2:IntKind.i64.wrap ((k.synced.recs:Int)+1)=(k.synced.recs:Int)+1:=by rw[xn];omega
 have X:Hid<|iY cv tv lo B b r s w (.returned<|.bool bL)<|(p.setCell (zq b 3)<|zi<|(k.ep:Int)+1).setCell (zq b 4)<|zi<|(k.synced.recs:Int)+1:=by
  have q:xb (·=b) p<|(p.setCell (zq b 3)<|zi<|(k.ep:Int)+1).setCell (zq b 4)<|zi<|(k.synced.recs:Int)+1:=(xb.set p (zq b 3) _).trans<|xb.set _ (zq b 4) _;have ba:W6 ((p.setCell (zq b 3)<|zi<|(k.ep:Int)+1).setCell (zq b 4)<|zi<|(k.synced.recs:Int)+1) b {k.synced with ep:=k.ep+1,recs:=k.synced.recs+1}:=
   ⟨(c.blk.set 3 _).set 4 _,c.kept.but q fun g D Q=>c.blk.dR (by decide) g D Q,c.seen.but q fun g D Q=>c.blk.dR (by decide) g D Q⟩
  exact⟨rfl,((N0.o.mono fun _ x=>x.elim).trans<|a.o.old T2.o<|j.trans q),I,V,_,a.o.to T2.o (j.trans q) ba Y.o HI.o<|HQ.o _ rfl rfl rfl rfl rfl,W.o.1,W.o.2.1,W.o.2.2⟩
 clear j c;generalize k.synced.recs=rc at*
 go_wp2_with fail
 go_ret
 exact X.o
def wI(h:Pl cv tv lo B b r s k w):
  bE prog 19 #[zo b] w fun e w'=>e= .returned (zi<|lW k.seen)/\Nw w w':=by
 have a:=h.fI.seen;exact xod b k (by rw[a];exact(cX h.inv.oN).sK<|TF h.inv) (by rw[a,KZ];have:=EP h.inv;omega) _ h.bk
def wH(h:Pl cv tv lo B b r s k w)(Q:r.cnt<=31)(D:s.bP<999)(J:lW k.seen<=10000):
  bE prog 20 #[zo B] w fun e w'=>e= .returned (zi 0)/\∃r' s',jt B r w r' w'/\r'.sn=bO s'/\Wy r' s'/\Bk r' s' k.synced/\(r'.cnt<=r.cnt+2/\r'.op<=r.op+1/\s'.bP<=s.bP+1)/\Two r'.d.L (lW k.seen):=by
 have o:=h.fI.seen;have C:(Vf s.now).length=lW k.seen:=by rw[zx5,<-o]
 obtain⟨x,r',s',a,f,t,g,j,l,m,q,c,n,z,E⟩:=h.inv.GH h.sn (by omega) D (by omega);have p:∀x,r.bW s=(bO 0,x)->fV B x/\x.d.L.length+2<1000000/\jM (r.ses1 s).L/\(r.ses1 s).L.length<=1000000/\0<=(r.ses1 s).bP/\(r.ses1 s).bP<=999/\(qu x.d.L<|Ye (r.ses1 s).named).length<=900000:=fun M e=>by
  rw[a.run]at e;cases e;have y:=a.inv.few;have N:=a.inv.cnt;have F:=a.inv.len;have H:=a.inv.sh0;have O:=a.bP;refine⟨h.ok1 a,by omega,a.inv.sK,by omega,H,by omega,by rw[z];simp⟩
 have G:Bk r' s' k.synced:=by
  have i:=QU h.fI a;have I:s'.now=(r.ses1 s).now:=by unfold Jo.now;rw[j,l,a.P]
  exact⟨by rw[I];exact i.seen,by rw[j];exact i.kept,by rw[i.pend,l,a.P],by rw[i.ep,a.ep,m],by rw[i.recs,c]⟩
 refine(zvy B r s _ h.st h.sn h.ok p h.wC h.inv.P (by have:=h.inv.ep;omega)<|by rw[f];simp).mono ?_;rintro e R ⟨v,K,y,rfl,F⟩;rw[f]at y;cases y;refine⟨rfl,r',s',F,t,g,G,⟨?_, ?_, ?_⟩,C▸E⟩;rw[c,a.cnt];split<;>omega
 rw[n.op];omega;rw[q];omega
def SP(N M:Int)(S T:Zl)(h:Pl cv tv lo B b r s k w)(L:r.cnt<=29)(p:s.bP<999):
  bE prog 21 #[zo b,zo B,jH 7 N M S T] w (iY cv tv lo B b r s w):=by
 have q:Hid<|Nw w<|w.alloc<|.cells #[zi 7,zi N,zi M,zs S,zs T] 47:=Nw.alloc _ _;have i:=zl<|h.nw q.o;clear h;unfold jH;go_enter func21.1,Tryz.ntmps21
 go_wp2_with fail
 generalize w.alloc (.cells #[zi 7,zi N,zi M,zs S,zs T] 47)=w1 at*;refine(wI i.o).mono ?_;rintro e C ⟨rfl,c⟩;have d:=zl<|i.o.nw c;have t:Hid<|Nw w C:=q.o.trans c;clear c;by_cases G:10000<lW k.seen
 ·have H:(10000:Int)<(lW k.seen:Int):=by omega
  have l:Hid<|iY cv tv lo B b r s w (.returned<|.bool bL) C:=⟨rfl,(t.o.mono fun _ x=>x.elim),r,s,k,d.o,by omega,by omega,by omega⟩
  go_wp2_with fail
  go_ret
  exact l.o
 have H:¬(10000:Int)<(lW k.seen:Int):=by omega
 have o:k.recs<=1000000:=by have:=i.o.fI.recs;omega
 go_wp2_with fail
 refine(wH d.o (by omega) p<|by omega).mono ?_;rintro e O ⟨rfl,I,J,n,g,z,v,y,_⟩;have T2:=zl n;have F:=zl<|jt.fI d.o.st n d.o.bk;have m:=zl g;have E:=zl z;have D:=zl v;have j:=zl y;clear n g z v y
 go_wp2_with fail
 refine(QV b k o _ F.o).mono ?_;rintro e K ⟨rfl,a,f⟩;have l:Hid<|iY cv tv lo B b r s w (.returned<|.bool bL) K:=⟨rfl,((t.o.mono fun _ x=>x.elim).trans<|d.o.old T2.o a),I,J,k.synced,d.o.to T2.o a f m.o E.o D.o,j.o.1,j.o.2.1,j.o.2.2⟩;clear a f
 go_wp2_with fail
 go_ret
 exact l.o
def SM(a N M:Int)(S T:Zl)(h:Pl cv tv lo B b r s k w)(o:r.cnt<=29)(e:¬a=1)(f:¬a=2)(g:¬a=3)(i:¬a=4)(j:¬a=5)(l:¬a=6)(m:¬a=7)(n:¬a=8):
  bE prog 21 #[zo b,zo B,jH a N M S T] w (iY cv tv lo B b r s w):=by
 have c:Hid<|Nw w<|w.alloc<|.cells #[zi a,zi N,zi M,zs S,zs T] 47:=Nw.alloc _ _;have d:=zl<|h.nw c.o;clear h;unfold jH;go_enter func21.1,Tryz.ntmps21
 go_wp2_with fail
 generalize w.alloc (.cells #[zi a,zi N,zi M,zs S,zs T] 47)=w1 at*
 go_ret
 exact⟨rfl,(c.o.mono fun _ x=>x.elim),r,s,k,d.o,by omega,by omega,by omega⟩
def Hk(N M:Int)(S T:Zl)(h:Pl cv tv lo B b r s k w)(hc:r.cnt<=29):
  bE prog 21 #[zo b,zo B,jH 3 N M S T] w (iY cv tv lo B b r s w):=by
 have N0:Hid<|Nw w<|w.alloc<|.cells #[zi 3,zi N,zi M,zs S,zs T] 47:=Nw.alloc _ _;have X0:Hid<|xx (w.alloc<|.cells #[zi 3,zi N,zi M,zs S,zs T] 47) w.heap.size #[zi 3,zi N,zi M,zs S,zs T] 47:=xx.new _ _ _;have m:=zl<|h.nw N0.o;clear h;unfold jH;go_enter func21.1,Tryz.ntmps21;have a3:(w.alloc<|.cells #[zi 3,zi N,zi M,zs S,zs T] 47).cell? (zq w.heap.size 3)=bO (zs S):=X0.o.cell 3 rfl
 go_wp2_with fail
 generalize w.alloc (.cells #[zi 3,zi N,zi M,zs S,zs T] 47)=w1 at*;refine(TM B r S _ m.o.st fun t ht=>by rw[m.o.sn]at ht;cases ht;exact m.o.inv.P20).mono ?_;rintro e G ⟨rfl,z⟩;have U:=zl<|m.o.nw z;have N2:Hid<|Nw w G:=N0.o.trans z;have X2:=zl<|X0.o.nw z;have Q:Hid<|∀w',Nw G w'->iY cv tv lo B b r s w (.returned<|.bool bL) w':=fun w' y=>⟨rfl,((N2.o.trans y).mono fun _ x=>x.elim),r,s,k,U.o.nw y,by omega,by omega,by omega⟩;have W:Hid (r.gets S=if Ve S=bK then(([],6):Zl×Int)else match Zh s.now S with
  |none=>([],8)
  |some v=>(v,0)):=SY m.o.sn S
 clear a3 z;have b3:G.cell? (zq w.heap.size 3)=bO (zs S):=X2.o.cell 3 rfl;by_cases c:Ve S=bK
 ·have e1:r.gets S=([],6):=by rw[W.o,aA c]
  rw[e1];have bc:=xo [];have d:¬(0<S.length/\S.length<=16):=by simpa[Ve]using c
  by_cases hl:S.length<1
  ·have i1:((S.length:Nat):Int)<1:=by omega
   clear e1 c d
   go_wp2_with fail
   go_ret
   exact Q.o _<|xb.refl _ _
  have i1:¬((S.length:Nat):Int)<1:=by omega
  have i2:16<((S.length:Nat):Int):=by omega
  clear e1 c d
  go_wp2_with fail
  go_ret
  exact Q.o _<|xb.refl _ _
 have d:0<S.length/\S.length<=16:=by simpa[Ve]using c
 have i1:¬((S.length:Nat):Int)<1:=by omega
 have i2:¬16<((S.length:Nat):Int):=by omega
 obtain⟨p,g,bf,O,be,D⟩:=id U.o.bk.seen;have Z:=(U.o.bk.blk.cell 1 rfl).trans<|congrArg bO O;have V:=zl Z;have HR:=zl D;have a:=zl m.o.fI.seen;have bh:k.seen.length<=1000:=by rw[a.o,KZ];exact EP m.o.inv
 have f:Hid<|∀j (h:j<k.seen.length),k.seen[j].1=S->r.gets S=(k.seen[j].2,0):=fun j h e=>by
  have hg:=D8 m.o.inv m.o.sn;have R:=a.o;have h':j<(fD s.now).length:=by rw[<-R];exact h
  have:=hg j h';have e2:(fD s.now)[j]=k.seen[j]:=by simp only[R]
  rw[e2,e]at this;exact this
 have E:Hid<|(∀j (h:j<k.seen.length),k.seen[j].1≠S)->r.gets S=([],8):=fun C=>by
  have R:=a.o;have:Zh s.now S=bN:=by
   rw[<-yH,<-R];refine QC fun hm=>?_;obtain⟨q,hq,e⟩:=qp.1 hm;obtain⟨j,hj,rfl⟩:=List.mem_iff_getElem.1 hq;exact C j hj e
  rw[W.o,aB c,this]
 obtain⟨gv,ge,F⟩:∃gv ge,r.gets S=(gv,ge):=⟨_,_,rfl⟩;have H:=zl F;rw[F];clear c D O F W d a Z;generalize k.seen=l at*
 go_wp2_with fail
 go_loopw [9] (fun i wr=>∃j:Nat,j<=l.length/\i=zi j/\Nw G wr/\∀n (h:n<l.length),n<j->l[n].1≠S) (fun i _=>(l.length-intOf i).toNat)
 case atStart=>exact⟨0,by omega,rfl,xb.refl _ _,fun n h y=>absurd y<|Wd _⟩
 case round=>
  obtain⟨j,hj,rfl,y,C⟩:=hrel;have K:=zl y;have HJ:=zl C;have Z:=y.cell id V.o;clear y C;by_cases o:j<l.length
  ·have i3:(j:Int)<(l.length:Nat):=by omega
   have i0:(0:Int)<=(j:Int):=by omega
   have bd:l≠[]:=by intro e;rw[e]at o;cases o
   obtain⟨rfl,hr⟩:=HR.o bd;have h1:=(hr.but K.o id).cell j o;have s0:=h1.1;have s1:=h1.2;have s2:wr.cell? (zq w.heap.size 3)=bO (zs S):=(X2.o.nw K.o).cell 3 rfl;have HK:Hid<|l[j].1=S->(gv,ge)=(l[j].2,(0:Int)):=fun e=>H.o.symm.trans<|f.o j o e;have I:Hid (l[j].1≠S->∀n (h:n<l.length),n<j+1->l[n].1≠S):=fun e n h y=>by
    by_cases e2:n=j;subst e2;exact e;exact HJ.o n h<|by omega
   generalize l[j].1=qk at*;generalize l[j].2=qv at*;clear hr h1 E f;by_cases L:qk=S
   ·have bb:=HK.o L
    cases bb;subst L
    go_wp2_with fail
    go_quiet (fail)
    have Y:Hid<|Nw G<|wr.drewN nq:=K.o.trans (xb.refl _ _).drewN'
    go_wp2_with fail
    go_ret
    exact Q.o _ Y.o
   have bg:((st qk).toList==(st S).toList)=bK:=by rw[xo,xo];simpa using L
   have J:=I.o L;have X:=zl J;clear J I HK L
   go_wp2_with fail
   go_quiet (fail)
   have Y:Hid<|Nw G<|wr.drewN nq:=K.o.trans (xb.refl _ _).drewN'
   go_wp2_with fail
   go_roundw
   case rel=>exact⟨j+1,by omega,by go_num,Y.o,X.o⟩
   case measure=>simp[intOf];omega
  obtain rfl:j=l.length:=by omega
  have i3:¬(l.length:Int)<(l.length:Nat):=by omega
  have ba:=H.o.symm.trans<|E.o fun n h=>HJ.o n h h;cases ba;have bc:=xo [];clear E f HR
  go_wp2_with fail
  go_ret
  exact Q.o _ K.o
noncomputable def sH:=Qf Tryz.f21.body
noncomputable def xxr:=Qa sH
noncomputable def xxs:=Qa<|Qa<|Qb sH
noncomputable def gV:=Qb<|Qb sH
noncomputable def UQ:=Qk<|Qb<|Qa<|Qb sH
noncomputable def xxt:=Qa UQ
noncomputable def xwu:=Qc<|Qb UQ
noncomputable def WV:=Qd<|Qb UQ
noncomputable def xxu:=Qa WV
noncomputable def xwv:=Qc<|Qb WV
noncomputable def WW:=Qd<|Qb WV
noncomputable def xxv:=Qa WW
noncomputable def xww:=Qc<|Qb WW
noncomputable def WX:=Qd<|Qb WW
noncomputable def xxw:=Qa WX
noncomputable def xwx:=Qc<|Qb WX
noncomputable def WY:=Qd<|Qb WX
noncomputable def xxx:=Qa WY
noncomputable def xwy:=Qc<|Qb WY
noncomputable def WZ:=Qd<|Qb WY
noncomputable def xxy:=Qa WZ
noncomputable def xwz:=Qc<|Qb WZ
noncomputable def XB:=Qd<|Qb WZ
noncomputable def xxz:=Qa XB
noncomputable def xx0:=Qa<|Qc<|Qb XB
noncomputable def z33:=Qb<|Qb<|Qc<|Qb XB
noncomputable def UZ:=Qa<|Qb<|Qc<|Qb<|Qd<|Qb<|Qd<|Qb<|Qd<|Qb<|Qd<|Qb<|Qd<|Qb<|Qd<|Qb<|Qk<|Qb<|Qa<|Qb<|Qf Tryz.f21.body
def xqo:Tryz.f21.body=bO (.seq xxr<|.seq (.seq xxs<|.block 0<|.seq xxt<|.cond (.tmp 19) xwu<|.seq xxu<|.cond (.tmp 26) xwv<|.seq xxv<|.cond (.tmp 91) xww<|.seq xxw<|.cond (.tmp 100) xwx<|.seq xxx<|.cond (.tmp 108) xwy<|.seq xxy<|.cond (.tmp 137) xwz<|.seq xxz<|.cond (.tmp 149) (.seq xx0<|.seq UZ z33) .skip) gV):=by kernel_rfl
def V2:¬Mc bM 21:=xO (by decide) (by decide) Tryz.func21
def Vz{Q:Exit->Act->Zy->Prop}(h:kT Q){id:Nat}:kT (fun e a' w'=>match e with
  | .exit j=>if j=id then Q .normal a' w' else Q (.exit j) a' w'
  |e=>Q e a' w'):=by
 intro e a w t d;cases e with
 |exit j=>
  dsimp only;split;exact h _ _ _ _ _;exact h _ _ _ _ _
 |normal=>exact h _ _ _ _ _
 |goto l=>exact h _ _ _ _ _
 |ret=>exact h _ _ _ _ _
 |panic ch=>exact h _ _ _ _ _
 |outgrown=>exact h _ _ _ _ _
def Bb{w w':Zy}{e:Ending}{t:Nat->Question->Nat}{d:Nat}:iY cv tv lo B b r s w e (re w' t d)↔iY cv tv lo B b r s w e w':=by
 have n1:Nw w'<|re w' t d:=Nw.gL (xb.refl _ _) t d;have k:Nw (re w' t d) w':=⟨rfl,rfl,ze _,fun _ _ _=>rfl⟩;constructor;rintro⟨a,c,i,j,h,f,g⟩;exact⟨a,xb.re c,i,j,h,f.nw k,g⟩;rintro⟨a,c,i,j,h,f,g⟩;exact⟨a,c.trans<|n1.mono fun _ x=>x.elim,i,j,h,f.nw n1,g⟩
def Wy.tV(I:Wy r s)(x:Option Jo):Wy {r with sn:=x} s:=by
 obtain⟨a,b,q,L,D⟩:=I.dsk;exact⟨⟨a,b,q,L,⟨D.ok,D.cnt,D.tag,D.ep,D.same,D.base,D.last,D.named⟩⟩,I.mark,I.gd,I.each,I.nx,I.room,I.lim,I.fus,I.rC,I.cnt,I.P,I.P20,I.sK,I.len,I.ep,I.op,I.named,I.sh0⟩
def Wy.fP{B:Nat}{x:Nat}(hx:r.shut.own B x):r.own B x:=by
 rcases hx with e|e|⟨t,a,_⟩;exact .inl e;exact .inr<|.inl e;cases a
def SO(N M:Int)(S T:Zl)(h:Pl cv tv lo B b r s k w)(hop:r.op<999):
  CC bM 21 #[zo b,zo B,jH 8 N M S T] w (iY cv tv lo B b r s w):=by
 have hQ:kT<|nJ bM funcs Tryz.f21<|iY cv tv lo B b r s w:=AO fun e w' t d=>Bb;refine CC.fA bQ V2 (bZ rfl Tryz.func21 rfl).1 Tryz.func21 xqo ?_;rw[show Tryz.f21.ntmps=171 from rfl];generalize hPX:nJ bM funcs Tryz.f21 (iY cv tv lo B b r s w)=PX at hQ;unfold jH;simp only[jg,zh,jn,Nat.reduceAdd,Nat.reduceSub,qw,qx,Z7,Zi,jk,jc];refine gG V2 hQ fun w1 b6 bq ba br=>?_;have N1:Hid<|Nw w<|w1.alloc<|.cells #[zi 8,zi N,zi M,zs S,zs T] 47:=(ji bq).trans<|Nw.alloc _ _;have X1:Hid<|xx (w1.alloc<|.cells #[zi 8,zi N,zi M,zs S,zs T] 47) w1.heap.size #[zi 8,zi N,zi M,zs S,zs T] 47:=xx.new _ _ _;have H0:=zl h;have m:=zl hQ;have bp:=zl hPX;clear h hQ hPX br
 conv=>arg 2;whnf
 go_wp2_with fail
 refine ba.o _ _ ?_;clear ba;generalize w1.alloc (.cells #[zi 8,zi N,zi M,zs S,zs T] 47)=wA at*;refine Xn.seq bQ V2 trivial ?_;refine gG V2 m.o.dV fun w2 b7 O bb bs=>?_;have c0:w2.cell? (zq w1.heap.size 0)=bO (zi 8):=(X1.o.nw<|ji O).cell 0 rfl;have N2:Hid<|Nw w w2:=N1.o.trans<|ji O;clear bs
 conv=>arg 2;whnf
 go_wp2_with fail
 refine bb.o _ _ ?_;clear bb c0;refine Xn.block bQ V2 ?_;refine gG V2 (Vz m.o.dV) fun v0 bv Q o bd=>?_;have M0:Hid<|Nw w v0:=N2.o.trans<|ji Q;clear bd
 conv=>arg 2;whnf
 go_wp2_with fail
 refine o.o _ _ ?_;clear o;refine Xn.cond bQ V2 rfl ?_;simp only[xu,if_false];refine gG V2 (Vz m.o.dV) fun v1 bw U p be=>?_;have M1:Hid<|Nw w v1:=M0.o.trans<|ji U;clear be
 conv=>arg 2;whnf
 go_wp2_with fail
 refine p.o _ _ ?_;clear p;refine Xn.cond bQ V2 rfl ?_;simp only[xu,if_false];refine gG V2 (Vz m.o.dV) fun v2 bx V q bf=>?_;have M2:Hid<|Nw w v2:=M1.o.trans<|ji V;clear bf
 conv=>arg 2;whnf
 go_wp2_with fail
 refine q.o _ _ ?_;clear q;refine Xn.cond bQ V2 rfl ?_;simp only[xu,if_false];refine gG V2 (Vz m.o.dV) fun v3 bz W y bg=>?_;have M3:Hid<|Nw w v3:=M2.o.trans<|ji W;clear bg
 conv=>arg 2;whnf
 go_wp2_with fail
 refine y.o _ _ ?_;clear y;refine Xn.cond bQ V2 rfl ?_;simp only[xu,if_false];refine gG V2 (Vz m.o.dV) fun v4 b0 X z bh=>?_;have M4:Hid<|Nw w v4:=M3.o.trans<|ji X;clear bh
 conv=>arg 2;whnf
 go_wp2_with fail
 refine z.o _ _ ?_;clear z;refine Xn.cond bQ V2 rfl ?_;simp only[xu,if_false];refine gG V2 (Vz m.o.dV) fun v5 b1 Y C bi=>?_;have M5:Hid<|Nw w v5:=M4.o.trans<|ji Y;clear bi
 conv=>arg 2;whnf
 go_wp2_with fail
 refine C.o _ _ ?_;clear C;refine Xn.cond bQ V2 rfl ?_;simp only[xu,if_false];refine gG V2 (Vz m.o.dV) fun v6 b2 Z D bj=>?_;have M6:Hid<|Nw w v6:=M5.o.trans<|ji Z;clear bj
 conv=>arg 2;whnf
 go_wp2_with fail
 refine D.o _ _ ?_;clear D;refine Xn.cond bQ V2 rfl ?_;simp only[if_true];refine gG V2 (Vz m.o.dV) fun v7 b3 n E bl=>?_;have f:=zl<|H0.o.nw<|M6.o.trans<|ji n;have M7:Hid<|Nw w v7:=M6.o.trans<|ji n;clear bl
 conv=>arg 2;whnf
 go_wp2_with fail
 refine(x_ B r _ f.o.st).mono ?_;rintro e w8 ⟨rfl,H⟩;have T8:=zl H;have K8:=zl<|jt.fI f.o.st H f.o.bk;rw[show(if r.sn.isSome then(0:Int)else 5)=0 by rw[f.o.sn];rfl];clear H
 go_wp2_with fail
 refine E.o _ _ ?_;clear E;have G8:=zl (f.o.wC.but T8.o.but fun x hx=>by have:=f.o.own x hx;have:=f.o.l4;omega);have l:CC bM 16 #[zo B] w8<|FH B r.shut w8:=by
  refine G_ (cv:=cv) (tv:=tv) T8.o.at_ rfl hop (fV.of (s:=s) (f.o.inv.tV bN) (.inr rfl) fun x hx=>by have:=f.o.own x<|Wy.fP hx;have:=f.o.l4;omega) G8.o (fun i=>by have:=f.o.inv.jD i;show(qu r.d.L i).length<=_;omega) fun mp=>?_;obtain⟨F,L,R⟩:=f.o.inv.reopen mp;have hl:=R.rC;exact⟨F,L,R.look,by show(Xi F r.d).1=bL;rw[R.mend],(fun ht=>absurd (R.dD.symm.trans ht)<|by simp),by omega,by omega⟩
 refine Xn.seq bQ V2 trivial ?_
 conv=>arg 3;whnf
 refine Xn.dB bQ V2 ?_;refine Jc.value (val:=zo B) (w':=w8) bQ V2 rfl (fun t d=>⟨t,d,by show(bG _ _).run prog _=_;simp[bG,go_sem]⟩) ?_;refine Jc.call bQ V2 rfl rfl (fun v=>by show(bG _ _).run prog _=_;simp[bG,go_sem,resolve,Act.put]) (bZ rfl Tryz.func16 rfl) l ?_ ?_;rotate_left;rintro ch w9 ⟨he,_⟩;cases he;rintro v w9 ⟨he,mp,F,L,J,bn,I⟩;cases he;obtain⟨b8,L',R⟩:=f.o.inv.reopen mp;have bt:=bn.symm.trans R.look;cases bt;have T9:Hid<|jt B r v7 (Wp r F J L) w9:=T8.o.trans I;have K9:=zl<|jt.fI T8.o.at_ I K8.o;have RR:=zl R;clear bn I R l;refine mZ (val:=zi 0) V2 ⟨rfl,rfl⟩ ?_;refine Jc.nil bQ V2 ?_;refine mY V2 (Vz m.o.dV) fun c bu j bc=>?_;simp only[Act.put,xv,Zz,Z9];have a:Hid<|W6 c b k:=⟨K9.o.blk.nw<|ji j,K9.o.kept.but (ji j) fun _ _ _=>id,K9.o.seen.but (ji j) fun _ _ _=>id⟩;have K:=zl<|T9.o.trans<|jt.nw T9.o.at_<|ji j;have d0:c.cell? (zq b 0)=bO k.kv:=a.o.blk.cell 0 rfl;have d1:c.cell? (zq b 1)=bO k.sv:=a.o.blk.cell 1 rfl;have d2:c.cell? (zq b 2)=bO (zi k.pend):=a.o.blk.cell 2 rfl;have f1:=a.o.blk.bT 1;have f2:=a.o.blk.bT 2;have HF:Hid<|iY cv tv lo B b r s w (.returned<|.bool bL)<|(c.setCell (zq b 1) k.kv).setCell (zq b 2)<|zi 0:=by
  have hb:xb (·=b) c<|(c.setCell (zq b 1) k.kv).setCell (zq b 2)<|zi 0:=(xb.set c (zq b 1) _).trans<|xb.set _ (zq b 2) _;have hk:W6 ((c.setCell (zq b 1) k.kv).setCell (zq b 2)<|zi 0) b {k with sv:=k.kv,seen:=k.kept,pend:=0}:=
   ⟨(a.o.blk.set 1 k.kv).set 2 _,a.o.kept.but hb fun g G hc=>a.o.blk.dR (by decide) g G hc,a.o.kept.but hb fun g G hc=>a.o.blk.dR (by decide) g G hc⟩
  refine⟨rfl,(M7.o.mono fun _ x=>x.elim).trans<|f.o.old K.o hb,Wp r F J L,V4 J F L,_,f.o.to K.o hb hk ?_ (RR.o.inv J hop)<|WP f.o.fI RR.o rfl rfl rfl rfl rfl, ?_, ?_, ?_⟩;show bO (V4 J (Xi F r.d).2.1 L)=_;rw[RR.o.mend];show F.cnt<=_;rw[RR.o.cnt];omega;exact ze _;have:=f.o.inv.sh0;show(0:Int)<=_;omega
 obtain⟨p0,g0,b4,bm,_,_⟩:=id a.o.kept;obtain⟨p1,g1,b5,bo,_,_⟩:=id a.o.seen;rw[bm]at d0 HF;rw[bo]at d1;clear bm bo
 conv=>arg 2;whnf
 go_wp2_with fail
 refine bc.o .ret _ _ ?_;show PX .ret _ _;rw[<-bp.o];refine⟨rfl,.bool bL,fun t d=>⟨t,d, ?_⟩,HF.o⟩;show(aN Tryz.f21 _).run prog _=_;simp[aN,Tryz.results21,go_sem]
end
end P
namespace P
open A.Tryq Go.RowKit A
variable [pn:A.Pn]
def Hi{cv tv:Zv}{lo B b:Nat}{r:Sr}{s:Jo}{k:gZ}{w:Zy}(c N M:Int)(S T:Zl)(h:Pl cv tv lo B b r s k w)(f:r.cnt<=29)(hop:r.op<999)(l:s.bP<999):
  CC bM 21 #[zo b,zo B,jH c N M S T] w (iY cv tv lo B b r s w):=by
 have a:(∀w,Pl cv tv lo B b r s k w->bE prog 21 #[zo b,zo B,jH c N M S T] w (iY cv tv lo B b r s w))->CC bM 21 #[zo b,zo B,jH c N M S T] w (iY cv tv lo B b r s w):=fun x=>
  UM rfl (by decide) Tryz.func21 rfl (fun e v t d=>Bb.1) (fun v y=>by cases y.1) fun t d=>(x _<|h.nw<|Nw.gL (xb.refl _ _) t d).mono fun e v ⟨i,g,j⟩=>⟨i,⟨g.os,g.output,g.size,g.block⟩,j⟩
 by_cases i:c=1;subst i;exact a fun w h=>Hm N M S T h f;by_cases g:c=2;subst g;exact a fun w h=>Hj N M S T h f;by_cases j:c=3;subst j;exact a fun w h=>Hk N M S T h f;by_cases m:c=4;subst m;exact a fun w h=>SJ N M S T h f;by_cases n:c=5;subst n;exact a fun w h=>SR N M S T h f;by_cases o:c=6;subst o;exact a fun w h=>Hn N M S T h f;by_cases p:c=7;subst p;exact a fun w h=>SP N M S T h f l;by_cases q:c=8;subst q;exact SO N M S T h hop;exact a fun w h=>SM c N M S T h f i g j m n o p q
end P
namespace P
open A.Tryq Go.RowKit A
variable [pn:A.Pn]
attribute [local go_sem] xe zv
section
variable {cv tv:Zv} {w w':Zy} {lo B b:Nat} {t:Nat→Question→Nat}
structure Ac where
 kd:Int
 N:Int
 M:Int
 S:Zl
 T:Zl
def Ac.At(w:Zy)(g o:Nat)(c:Ac):Prop:=w.cell? (zq g o)=bO (zi c.kd)/\w.cell? (zq g<|o+1)=bO (zi c.N)/\w.cell? (zq g<|o+2)=bO (zi c.M)/\w.cell? (zq g<|o+3)=bO (zs c.S)/\w.cell? (zq g<|o+4)=bO (zs c.T)
def AL(lo:Nat)(w:Zy)(v:Zv)(D:List Ac):Prop:=∃a cap,v= .slice a D.length cap/\D.length<=maxLen/\∀i (h:i<D.length),∃g off,a=bO ⟨g,off,bN⟩/\g<lo/\Ac.At w g (off+i*5) D[i]
def AL.but{lo:Nat}{v:Zv}{D:List Ac}(h:AL lo w v D)(b:xb (fun x=>lo<=x) w w'):AL lo w' v D:=by
 obtain⟨a,d,o,p,q⟩:=h;refine⟨a,d,o,p,fun i r=>?_⟩;obtain⟨g,e,m,n,f,j,k,l,c4⟩:=q i r;have c:¬lo<=g:=by omega
 exact⟨g,e,m,n,b.cell c f,b.cell c j,b.cell c k,b.cell c l,b.cell c c4⟩
noncomputable def c10:=Qf Tryz.f10.body
noncomputable def xxm:=Qa c10
noncomputable def xxn:=Qa<|Qa<|Qb c10
noncomputable def Ht:=Qa<|Ql<|Qk<|Qb<|Qa<|Qb c10
noncomputable def Hu:=Qb<|Qk<|Qa<|Qb<|Ql<|Qk<|Qb<|Qa<|Qb c10
noncomputable def PD:=Qb<|Qb<|Ql<|Qk<|Qb<|Qa<|Qb c10
noncomputable def nY:=Qb<|Qb c10
noncomputable def UX:=Qa<|Qk<|Qa<|Qb<|Ql<|Qk<|Qb<|Qa<|Qb<|Qf Tryz.f10.body
def xqm:Tryz.f10.body=bO (.seq xxm<|.seq (.seq xxn<|.block 0<|.loop<|.seq Ht<|.seq (.block 1<|.seq UX Hu) PD) nY):=by kernel_rfl
def zag:¬Mc bM 10:=xO (by decide) (by decide) Tryz.func10
def sZ(b B:Nat)(v:Zv)(j:Nat)(a:Act):Prop:=∃x3 x4 x5 x6 x8 x9 x10 x11 x12 x13 x14 x15 x16 x17 x18 x19 x20 x21 x22 x23 x24 x25 x26 x27 x28 x29 x30 x31 x32 x33 x34 x35 x36 x37 x38 x39 x40 x41 x42 x43 x44 x45,a=⟨#[zo b,zo B,v,x3,x4,x5,x6,zi j,x8,x9,x10,x11,x12,x13,x14,x15,x16,x17,x18,x19,x20,x21,x22,x23,x24,x25,x26,x27,x28,x29,x30,x31,x32,x33,x34,x35,x36,x37,x38,x39,x40,x41,x42,x43,x44,x45],[]⟩
structure Pd(cv tv:Zv)(lo B b:Nat)(v:Zv)(D:List Ac)(w0:Zy)(j:Nat)(w:Zy):Prop where
 pl:∃r s k,Pl cv tv lo B b r s k w/\r.cnt<=31/\r.op<=2+j/\s.bP<=(j:Int)
 old:xb (fun x=>lo<=x) w0 w
 j1:j<=D.length
 j2:j<=300
 al:AL lo w v D
def Pd.nw{v:Zv}{D:List Ac}{w0:Zy}{j:Nat}(h:Pd cv tv lo B b v D w0 j w)(n:Nw w w'):Pd cv tv lo B b v D w0 j w':=by
 obtain⟨r,s,k,a,c⟩:=h.pl;exact⟨⟨r,s,k,a.nw n,c⟩,h.old.trans<|n.mono fun _ x=>x.elim,h.j1,h.j2,h.al.but<|n.mono fun _ x=>x.elim⟩
def DI(cv tv:Zv)(lo B b:Nat)(w0:Zy)(e:Ending)(w:Zy):Prop:=e= .returned (.bool bL)/\xb (fun x=>lo<=x) w0 w/\∃r s k,Pl cv tv lo B b r s k w/\r.cnt<=31/\r.op<=302/\s.bP<=300
def Rd{e:Ending}{d:Nat}:DI cv tv lo B b w e (re w' t d)↔DI cv tv lo B b w e w':=by
 have n1:Nw w'<|re w' t d:=Nw.gL (xb.refl _ _) t d;have k:Nw (re w' t d) w':=⟨rfl,rfl,ze _,fun _ _ _=>rfl⟩;constructor;rintro⟨a,c,i,j,h,f,g⟩;exact⟨a,xb.re c,i,j,h,f.nw k,g⟩;rintro⟨a,c,i,j,h,f,g⟩;exact⟨a,c.trans<|n1.mono fun _ x=>x.elim,i,j,h,f.nw n1,g⟩
section
variable {cv tv:Value} {lo B b j:Nat} {v:Value} {D:List Ac} {w0 w:World} {a:Act} {Po:Exit->Act->World->Prop}
def xnw(x:sZ b B v j a)(h:Pd cv tv lo B b v D w0 j w)
  (n:Hid<|∀a',sZ b B v j a'->j<D.length->j<300->(∀r s k,Pl cv tv lo B b r s k w->r.cnt<=29)->Po .normal a' w)(c:Hid<|∀a',sZ b B v j a'->Po (.exit 0) a' w):Ht.wp prog Po a w:=by
 obtain⟨x3,x4,x5,x6,x8,x9,J,K,L,M,N,O,Q,R,S,T,U,V,W,X,Y,Z,ba,bb,bc,bd,be,bf,bg,bh,bi,bj,bl,bm,bn,bo,bp,bq,br,bs,bt,bu,rfl⟩:=x;obtain⟨r,s,k,o,C,E,F⟩:=h.pl;obtain⟨ad,p,rfl,f,_⟩:=h.al;have c4:w.cell? (zq b 4)=bO (zi k.recs):=o.bk.blk.cell 4 rfl;have m:Hid<|∀g l e,Pl cv tv lo B b g l e w->g.cnt=k.recs:=fun g l e d=>by
  have i:w.cell? (zq b 4)=bO (zi e.recs):=d.bk.blk.cell 4 rfl;rw[c4]at i;have e2:(k.recs:Int)=(e.recs:Int):=by injection i with i;injection i
  have:=d.fI.recs;omega
 have y:=h.j1;have z:=h.j2;unfold maxLen at f;clear h o
 conv=>arg 2;whnf
 by_cases q:j<D.length
 ·have G:(j:Int)<(D.length:Nat):=by omega
  by_cases t:j<300
  ·have H:(j:Int)<300:=by omega
   by_cases h3:k.recs<30
   ·have I:(k.recs:Int)<30:=by omega
    go_wp2_with fail
    exact n.o _ ⟨_,_,_,_,_,_,_,_,_,_,_,_,_,_,_,_,_,_,_,_,_,_,_,_,_,_,_,_,_,_,_,_,_,_,_,_,_,_,_,_,_,_,rfl⟩ q t fun g l e d=>by have:=m.o g l e d;omega
   have I:¬(k.recs:Int)<30:=by omega
   go_wp2_with fail
   exact c.o _ ⟨_,_,_,_,_,_,_,_,_,_,_,_,_,_,_,_,_,_,_,_,_,_,_,_,_,_,_,_,_,_,_,_,_,_,_,_,_,_,_,_,_,_,rfl⟩
  have H:¬(j:Int)<300:=by omega
  go_wp2_with fail
  exact c.o _ ⟨_,_,_,_,_,_,_,_,_,_,_,_,_,_,_,_,_,_,_,_,_,_,_,_,_,_,_,_,_,_,_,_,_,_,_,_,_,_,_,_,_,_,rfl⟩
 have G:¬(j:Int)<(D.length:Nat):=by omega
 go_wp2_with fail
 exact c.o _ ⟨_,_,_,_,_,_,_,_,_,_,_,_,_,_,_,_,_,_,_,_,_,_,_,_,_,_,_,_,_,_,_,_,_,_,_,_,_,_,_,_,_,_,rfl⟩
def Hd{r:Sr}{s:Jo}{k:gZ}{x8:Zv}(l:sZ b B v j a)(f:a.tmps[8]?=bO (.bool bL))(h:Pl cv tv lo B b r s k w)(i:Hid<|∀a',sZ b B v j a'->Po .normal a' w):Hu.wp prog Po a w:=by
 obtain⟨x3,x4,x5,x6,x8,x9,m,n,o,p,q,t,x,y,z,C,D,E,F,G,H,I,J,K,L,M,N,O,Q,R,S,T,U,V,W,X,Y,Z,ba,bb,bc,bd,rfl⟩:=l;simp only[q8,Xb,Xl,zp]at f;subst f;have g:=zl h;have c4:w.cell? (zq b 4)=bO (zi k.recs):=h.bk.blk.cell 4 rfl;have c:(r.cnt:Int)=(k.recs:Int):=by have:=h.fI.recs;omega
 have d:=zl c;clear h c
 conv=>arg 2;whnf
 go_wp2_with fail
 refine(Tm B r _ g.o.st).mono ?_;rintro e w1 ⟨rfl,rfl⟩;rw[d.o]
 go_wp2_with fail
 exact i.o _ ⟨_,_,_,_,_,_,_,_,_,_,_,_,_,_,_,_,_,_,_,_,_,_,_,_,_,_,_,_,_,_,_,_,_,_,_,_,_,_,_,_,_,_,rfl⟩
def xnv(d:sZ b B v j a)(V:j<=300)(c:Hid<|∀a',sZ b B v (j+1) a'->Po .normal a' w):PD.wp prog Po a w:=by
 obtain⟨X,Y,Z,x6,x8,x9,e,f,g,h,i,k,l,m,n,o,p,q,r,s,t,x,y,z,C,D,E,F,G,H,I,J,K,L,M,N,O,Q,R,S,T,U,rfl⟩:=d;have W:IntKind.i64.wrap ((j:Int)+1)=(j:Int)+1:=by rw[xn];omega
 conv=>arg 2;whnf
 go_wp2_with fail
 exact c.o _ ⟨_,_,_,_,_,_,_,_,_,_,_,_,_,_,_,_,_,_,_,_,_,_,_,_,_,_,_,_,_,_,_,_,_,_,_,_,_,_,_,_,_,_,rfl⟩
end
def m5{Q:Exit->Act->Zy->Prop}(h:kT Q){I:Act->Zy->Prop}{m:Act->Zy->Nat}{a0:Act}{w0:Zy}(b:∀a w t d,I a (re w t d)↔I a w)(c:∀a w t d,m a (re w t d)=m a w):kT (fun e a' w'=>match e with
   | .normal=>I a' w'/\m a' w'<m a0 w0
   |e=>Q e a' w'):=by
 intro e a w t d;cases e with
 |normal=>show(I a (re w t d)/\m a (re w t d)<m a0 w0)↔(I a w/\m a w<m a0 w0);rw[b,c]
 |exit id=>exact h _ _ _ _ _
 |goto l=>exact h _ _ _ _ _
 |ret=>exact h _ _ _ _ _
 |panic ch=>exact h _ _ _ _ _
 |outgrown=>exact h _ _ _ _ _
def DL(a:Act):Nat:=301-(intOf<|a.tmps[7]?.getD undef).toNat
def Bw{b B:Nat}{v:Zv}{j:Nat}{a:Act}(h:sZ b B v j a):DL a=301-j:=by
 obtain⟨T,U,V,W,X,Y,c,d,e,f,g,i,k,l,m,n,o,p,q,r,s,t,w,x,y,z,C,D,E,F,G,H,I,J,K,L,M,N,O,Q,R,S,rfl⟩:=h;simp[DL,intOf]
def LL{v:Zv}{D:List Ac}{w:Zy}(h:Pd cv tv lo B b v D w 0 w):
  CC bM 10 #[zo b,zo B,v] w (DI cv tv lo B b w):=by
 have hQ:kT<|nJ bM funcs Tryz.f10<|DI cv tv lo B b w:=AO fun e w' t d=>Rd;refine CC.fA bQ zag (bZ rfl Tryz.func10 rfl).1 Tryz.func10 xqm ?_;rw[show Tryz.f10.ntmps=46 from rfl];generalize hPX:nJ bM funcs Tryz.f10 (DI cv tv lo B b w)=PX at hQ;have W:=zl hQ;have Y:=zl hPX;have H0:=zl h;clear h hQ hPX;simp only[jg,zh,jn,Nat.reduceAdd,Nat.reduceSub,qw,qx,Z7,Zi,jk,jc];refine gG zag W.o fun w1 cx ba F bj=>?_;have N1:=zl<|ji ba;clear bj
 conv=>arg 2;whnf
 go_wp2_with fail
 refine F.o _ _ ?_;clear F;refine Xn.seq bQ zag trivial ?_;refine gG zag W.o.dV fun w2 cy bb G bk=>?_;have H2:=zl<|H0.o.nw<|N1.o.trans<|ji bb;clear bk
 conv=>arg 2;whnf
 go_wp2_with fail
 refine G.o _ _ ?_;clear G;refine Xn.block bQ zag ?_;have bi:=Vz (W.o.dV (P:=bM) (fn:=10) (y:=nY)) (id:=0);refine Xn.loop bQ zag (by trivial) (fun a w'=>∃j,sZ b B v j a/\Pd cv tv lo B b v D w j w') (fun a _=>DL a) ?_ _ _ ⟨0,⟨_,_,_,_,_,_,_,_,_,_,_,_,_,_,_,_,_,_,_,_,_,_,_,_,_,_,_,_,_,_,_,_,_,_,_,_,_,_,_,_,_,_,rfl⟩,H2.o⟩;rintro a w3 ⟨j,hf,bn⟩;have hI:∀a w' t d,(∃j,sZ b B v j a/\Pd cv tv lo B b v D w j (re w' t d))↔(∃j,sZ b B v j a/\Pd cv tv lo B b v D w j w'):=fun a w' t d=>
  ⟨fun⟨j,Z,h2⟩=>⟨j,Z,h2.nw ⟨rfl,rfl,ze _,fun _ _ _=>rfl⟩⟩,fun⟨j,Z,h2⟩=>⟨j,Z,h2.nw<|Nw.gL (xb.refl _ _) t d⟩⟩
 have p:=m5 bi (I:=fun a w'=>∃j,sZ b B v j a/\Pd cv tv lo B b v D w j w') (m:=fun a _=>DL a) (a0:=a) (w0:=w3) hI fun _ _ _ _=>rfl;have cs:=Bw hf;refine gG zag p fun i cz bc H J=>?_;have c:=bn.nw<|ji bc;refine xnw hf c (fun a4 x L c8 bo=>H.o _ _ ?_) fun a4 x=>J.o _ _ _ (by simp) ?_
 ·
  obtain⟨r,s,k,Q,q,O,V⟩:=c.pl;have C:=bo r s k Q;have z:=fun kd N M S T=>Hi kd N M S T Q C (by omega) (by omega);obtain⟨ad,o,rfl,ct,bl⟩:=c.al;obtain⟨g,f,rfl,hg,c0,c1,c2,c3,c4⟩:=bl j L;refine Xn.seq bQ zag trivial (Xn.block bQ zag ?_);obtain⟨x3,x4,x5,x6,x8,x9,bp,bq,br,bs,bt,bu,bv,bw,bx,bz,b0,b1,b2,b3,b4,b5,b6,b7,b8,b9,ca,cb,cc,cd,ce,cf,cg,ci,cj,ck,cl,cm,cn,co,cp,cq,rfl⟩:=x;refine Xn.seq bQ zag trivial ?_
  conv=>arg 3;whnf
  refine Xn.dB bQ zag ?_;refine Jc.value (val:=zo b) (w':=i) bQ zag rfl (fun t d=>⟨t,d,by show(bG _ _).run prog _=_;simp[bG,go_sem]⟩) ?_;refine mZ (val:=zo B) zag ⟨rfl,rfl⟩ ?_;refine mZ (val:= .slice (bO ⟨g,f,bN⟩) D.length o) zag ⟨rfl,rfl⟩ ?_;refine mZ (val:=zi j) zag ⟨rfl,rfl⟩ ?_;have i1:(j:Int)<(D.length:Nat):=by omega
  have i0:¬(j:Int)<0:=by omega
  refine Jc.value (val:=zk g<|f+j*5) (w':=i) bQ zag rfl (fun t d=>⟨t,d,by show(bG _ _).run prog _=_;simp[bG,go_sem,Act.put,i0,i1,L]⟩) ?_;refine Jc.value (val:=jH D[j].kd D[j].N D[j].M D[j].S D[j].T) (w':=i) bQ zag rfl (fun t d=>⟨t,d, ?_⟩) ?_
  ·have e0:(re i t d).cell? (zq g<|f+j*5)=bO (zi D[j].kd):=c0
   have e1:(re i t d).cell? (zq g<|f+j*5+1)=bO (zi D[j].N):=c1;have e2:(re i t d).cell? (zq g<|f+j*5+2)=bO (zi D[j].M):=c2;have e3:(re i t d).cell? (zq g<|f+j*5+3)=bO (.string<|st D[j].S):=c3;have e4:(re i t d).cell? (zq g<|f+j*5+4)=bO (.string<|st D[j].T):=c4;show(bG _ _).run prog _=_;simp[bG,go_sem,Act.put,e0,e1,e2,e3,e4,jH]
  refine Jc.call (args:=#[.pointer _,.pointer _,jH D[j].kd D[j].N D[j].M D[j].S D[j].T]) bQ zag rfl rfl (fun v=>by show(bG _ _).run prog _=_;simp[bG,go_sem,resolve,Act.put]) (bZ rfl Tryz.func21 rfl) (z _ _ _ _ _) ?_ ?_;rotate_left;rintro ch X ⟨he,_⟩;cases he;rintro vv X ⟨he,l,r',s',k',R,cr,cu,cw⟩;cases he;refine Jc.value (val:= .bool bL) (w':=X) bQ zag rfl (fun t d=>⟨t,d,by show(bG _ _).run prog _=_;simp[bG,go_sem,Act.put]⟩) ?_;refine Jc.nil bQ zag ?_;have U:Pd cv tv lo B b (.slice (bO ⟨g,f,bN⟩) D.length o) D w (j+1) X:=⟨⟨r',s',k',R,by omega,by omega,by omega⟩,c.old.trans l,by omega,by omega,c.al.but l⟩;refine Xn.last' bQ kZ zag (Vz (p.dV (P:=bM) (fn:=10) (y:=PD)) (id:=1)) fun w6 c6 E bg=>(show Code.wp prog _ _ _ _ from ?_);simp only[Act.put,xv,Zz,Z9];refine Hd (x8:=undef) (j:=j) (v:= .slice (bO ⟨g,f,bN⟩) D.length o) ⟨_,_,_,_,_,_,_,_,_,_,_,_,_,_,_,_,_,_,_,_,_,_,_,_,_,_,_,_,_,_,_,_,_,_,_,_,_,_,_,_,_,_,rfl⟩ rfl (R.nw<|ji E) fun a6 bm=>bg.o .normal _ _ ?_;show Xn bM 10 PD _ a6 w6;refine mY zag p fun w7 c7 be bh=>?_;refine xnv bm (by omega) fun a7 K=>bh.o .normal _ _ ⟨⟨j+1,K,(U.nw<|ji E).nw<|ji be⟩, ?_⟩;have h7:=Bw K;show DL a7<DL a;omega
 show(if 0=0 then _ else _);rw[aA rfl];show Xn bM 10 nY PX a4 i;obtain⟨r,s,k,Q,q,O,V⟩:=c.pl;have HP:Hid<|∀w',Nw i w'->DI cv tv lo B b w (.returned<|.bool bL) w':=fun w' n=>⟨rfl,(c.nw n).old,r,s,k,Q.nw n,q,by have:=c.j2;omega,by have:=c.j2;omega⟩;obtain⟨x3,x4,x5,x6,x8,x9,bp,bq,br,bs,bt,bu,bv,bw,bx,bz,b0,b1,b2,b3,b4,b5,b6,b7,b8,b9,ca,cb,cc,cd,ce,cf,cg,ci,cj,ck,cl,cm,cn,co,cp,cq,rfl⟩:=x;refine mY zag W.o fun X c5 bd bf=>?_;have n5:=zl<|ji bd;clear Q q O V H J
 conv=>arg 2;whnf
 go_wp2_with fail
 refine bf.o .ret _ _ ?_;rw[<-Y.o];refine⟨rfl,.bool bL,fun t d=>⟨t,d, ?_⟩,HP.o _ n5.o⟩;show(aN Tryz.f10 _).run prog _=_;simp[aN,Tryz.results10,go_sem]
noncomputable def pD:=Qa<|Qf Tryz.f9.body
noncomputable def pH:=Qa<|Qb<|Qf Tryz.f9.body
noncomputable def pL:=Qa<|Qb<|Qb<|Qf Tryz.f9.body
noncomputable def pN:=Qa<|Qn 3<|Qf Tryz.f9.body
noncomputable def pP:=Qa<|Qn 5<|Qf Tryz.f9.body
noncomputable def pS:=Qa<|Qn 6<|Qf Tryz.f9.body
noncomputable def pT:=Qa<|Qn 7<|Qf Tryz.f9.body
noncomputable def y9:=Qn 9<|Qf Tryz.f9.body
noncomputable def lR:=Qa<|Qn 4<|Qf Tryz.f9.body
noncomputable def mA:=Qa<|Qn 8<|Qf Tryz.f9.body
def xtm:Tryz.f9.body=bO (.seq pD<|.seq pH<|.seq pL<|.seq pN<|.seq lR<|.seq pP<|.seq pS<|.seq pT<|.seq mA y9):=by kernel_rfl
def kQ:¬Mc bM 9:=xO (by decide) (by decide) Tryz.func9
def Ic:Jo:=⟨0,0,[],.slice bN 0 0,[],0,0,0,0,0⟩
def Wy.new{nW:Int}{m:Zl}{D M:Nat}(e:m.length=32):Wy (Sr.new 100000 nW 999 m D M) Ic:=by
 have hk:Y0 (Jp m [] 0 0 0) []=Jp m [] 0 0 0:=by unfold Y0;rw[aA (show qu [] 0=[]from rfl)]
 refine⟨⟨[],[],Jp m [] 0 0 0,[],⟨⟨e,fun h=>absurd rfl h,⟨fun _=>rfl,fun h=>absurd rfl h⟩, ?_,fun i d=>absurd d<|Wd _,rfl, ?_,fun n f=>absurd rfl f⟩,rfl,rfl,rfl,iF.rfl' List.nodup_nil, ?_,rfl, ?_⟩⟩,Pg,fM.nil,(fun p a=>(Vy a).elim),rfl,rfl,rfl, ?_, ?_, ?_,(fun c b=>(Vy b).elim), ?_,(fun p a=>(Vy a).elim),Vj _,Vj _,Vj _,.inl rfl,Int.le_refl _⟩;show jY _ (Y0 (Jp m [] 0 0 0) []) [] [] _ _;rw[hk];exact jY.nil _ _ _;show(Y0 (Jp m [] 0 0 0) []).base.toNat+_<=_;rw[hk];show(0:Nat)+0<=_;omega;show(0:Int)=(Y0 (Jp m [] 0 0 0) []).base;rw[hk];rfl;show(0:Int)=(Y0 (Jp m [] 0 0 0) []).named;rw[hk];rfl;show J6 []<=10116+1071*((0:Nat):Int);simp[J6];show(0:Int)<=((0:Nat):Int);omega;show(0:Nat)<=40;omega;show([]:List dM).length<=20;simp
structure U0(cv tv:Zv)(lo B:Nat)(r:Sr)(s:Jo)(w:Zy):Prop where
 st:Jq w B r
 sn:r.sn=bO s
 inv:Wy r s
 L:s.L=[]
 P:s.P=[]
 cnt:r.cnt=0
 op:r.op=2
 ep:s.ep=0
 bP:s.bP=0
 own:∀x,r.own B x->lo<=x
def MG(cv tv:Zv)(w:Zy)(e:Ending)(w':Zy):Prop:=∃B r s,e= .returned (zo B)/\U0 cv tv w.heap.size B r s w'/\Nw w w'
def Jq.nw{B:Nat}{r:Sr}(h:Jq w B r)(n:Nw w w'):Jq w' B r:=h.but n fun _ _=>id
def m6{e:Ending}{d:Nat}:MG cv tv w e (re w' t d)↔MG cv tv w e w':=by
 have n1:Nw w'<|re w' t d:=Nw.gL (xb.refl _ _) t d;have f:Nw (re w' t d) w':=⟨rfl,rfl,ze _,fun _ _ _=>rfl⟩;constructor;rintro⟨B,r,s,b,a,c⟩;exact⟨B,r,s,b,⟨a.st.nw f,a.sn,a.inv,a.L,a.P,a.cnt,a.op,a.ep,a.bP,a.own⟩,c.trans f⟩;rintro⟨B,r,s,b,a,c⟩;exact⟨B,r,s,b,⟨a.st.nw n1,a.sn,a.inv,a.L,a.P,a.cnt,a.op,a.ep,a.bP,a.own⟩,c.trans n1⟩
def jt.zP{B:Nat}{r r':Sr}{w0 w w':Zy}(n:Nw w0 w)(t:jt B r w r' w')(ho:∀x,r.own B x->w0.heap.size<=x):Nw w0 w':=
 ⟨t.but.os.trans n.os,t.but.output.trans n.output,xz n.size t.but.size,fun i a _=>(t.but.block i (zn a n.size) fun h=>by have:=ho i h;omega).trans<|n.block i a id⟩
def cQ{L:KV}(h:iF L []):L=[]:=xa<|h.len.trans rfl
def Ny{B:Nat}{r:Sr}{s:Jo}{w:Zy}(h:Jq w B r)(b:r.sn=bN)(I:Wy r s)(hop:r.op<999)(g:iA cv tv w)(a:∀x,r.own B x->2<x):
  CC bM 16 #[zo B] w fun e w'=>e= .returned (zi 0)/\∃mp kk L SS,FJ r s mp kk L/\jt B r w (Wp r kk SS L) w':=by
 refine(G_ (cv:=cv) (tv:=tv) h b hop (fV.of (s:=s) I (.inr b) a) g (fun i=>by have:=I.jD i;omega) fun mp=>?_).mono fun e w' ⟨j,mp,kk,L,SS,d,f⟩=>?_;obtain⟨kk,L,R⟩:=I.reopen mp;have n:=R.rC;exact⟨kk,L,R.look,by rw[R.mend],(fun k=>absurd (R.dD.symm.trans k)<|by simp),by omega,by omega⟩;obtain⟨l,m,R⟩:=I.reopen mp;have c:=d.symm.trans R.look;cases c;exact⟨j,mp,kk,L,SS,R,f⟩
def ZZ{r:Sr}{s:Jo}{mp SS:Nat}{kk:Lk}{L:KV}(R:FJ r s mp kk L):(Wp r kk SS L).sn=bO (V4 SS kk L):=by
 show bO (V4 SS (Xi kk r.d).2.1 L)=_;rw[R.mend]
def Ln(ms:Zl)(sg:Int)(b1:-9223372036854775808<=sg/\sg<=9223372036854775807){w:Zy}(hG:iA cv tv w):
  CC bM 9 #[zs ms,zi sg,zi 999] w (MG cv tv w):=by
 have hQ:kT<|nJ bM funcs Tryz.f9<|MG cv tv w:=AO fun e w' t d=>m6;refine CC.fA bQ kQ (bZ rfl Tryz.func9 rfl).1 Tryz.func9 xtm ?_;rw[show Tryz.f9.ntmps=89 from rfl];generalize hPX:nJ bM funcs Tryz.f9 (MG cv tv w)=PX at hQ;have J:=zl hQ;have b5:=zl hPX;have HG:=zl hG;have cx:=hG.pos;clear hQ hPX hG;simp only[jg,zh,jn,Nat.reduceAdd,Nat.reduceSub,qw,qx,Z7,Zi,jk,jc];refine gG kQ J.o fun w1 cs bp S bu=>?_;have N1:=zl<|ji bp;clear bu
 conv=>arg 2;whnf
 go_wp2_with fail
 refine S.o _ _ ?_;clear S;refine gG kQ J.o fun w2 cy cj bs cl=>?_;have N2:Hid<|Nw w w2:=N1.o.trans<|ji cj;clear cl
 conv=>arg 2;whnf
 go_wp2_with fail
 refine(VZ sg 400 (by omega) (by omega) b1.1 b1.2 _).mono ?_;rintro e c1 ⟨⟨p,hp,rfl⟩,rfl⟩;have cm:IntKind.i64.wrap (1+(p:Int))=1+(p:Int):=by rw[xn];omega
 go_wp2_with fail
 refine(Dr ms 32 (by omega) 32 rfl _).mono ?_;rintro e w3 ⟨rfl,bz⟩;have N3:Hid<|Nw w w3:=N2.o.trans<|xb.of_below bz;have bi:=xoo ms 32;clear bz;generalize wM ms 32=m at*
 go_wp2_with fail
 refine(xpw _ _ 999 m (by omega) (by omega) (by omega) (by omega) (by omega) (by omega) bi _).mono ?_;rintro e w4 ⟨B,D,M,rfl,hB,hD,hM,b0,bb⟩;have N4:Hid<|Nw w w4:=N3.o.trans<|xb.of_below b0;have S4:=zl bb;have I4:Hid<|Wy (Sr.new 100000 (1+(p:Int)) 999 m D M) Ic:=Wy.new bi;have O4:Hid<|∀x,(Sr.new 100000 (1+(p:Int)) 999 m D M).own B x->w.heap.size<=x:=fun x o=>by
  have h3:=N3.o.size;rcases o with e|(e|e|⟨c,W,_⟩)|⟨t,F,_⟩
  omega;have e:x=D:=e;omega;have e:x=M:=e;omega;cases W;cases F
 have C:(Sr.new 100000 (1+(p:Int)) 999 m D M).cnt=0:=rfl;have Z:(Sr.new 100000 (1+(p:Int)) 999 m D M).op=0:=rfl;have ba:(Sr.new 100000 (1+(p:Int)) 999 m D M).sn=bN:=rfl;clear b0 bb hB hD hM cm hp bi;generalize Sr.new 100000 (1+(p:Int)) 999 m D M=r0 at*;have bl:=zl C;have bd:=zl Z;have b6:=zl ba;clear C Z ba
 go_wp2_with fail
 refine bs.o _ _ ?_;clear bs;refine gG kQ J.o fun w5 ct bq T bv=>?_;have N5:=zl<|ji bq;clear bv
 conv=>arg 2;whnf
 go_wp2_with fail
 refine T.o _ _ ?_;clear T;refine gG kQ J.o fun w6 cu br U bw=>?_;have N6:Hid<|Nw w4 w6:=N5.o.trans<|ji br;clear bw
 conv=>arg 2;whnf
 go_wp2_with fail
 refine(Tm B r0 _<|S4.o.nw N6.o).mono ?_;rintro e b3 ⟨rfl,rfl⟩;rw[show((r0.cnt:Nat):Int)=0 by rw[bl.o];rfl]
 go_wp2_with fail
 refine U.o _ _ ?_;clear U;have G6:=HG.o.but (N4.o.trans N6.o) fun _ x=>x.elim;have bc:∀x,r0.own B x->2<x:=fun x o=>by have:=O4.o x o;omega
 have b:=Ny (S4.o.nw N6.o) b6.o I4.o (by rw[bd.o];omega) G6 bc;refine Xn.seq bQ kQ trivial ?_
 conv=>arg 3;whnf
 refine Xn.dB bQ kQ ?_;refine Jc.value (val:=zo B) (w':=b3) bQ kQ rfl (fun t d=>⟨t,d,by show(bG _ _).run prog _=_;simp[bG,go_sem]⟩) ?_;refine Jc.call bQ kQ rfl rfl (fun v=>by show(bG _ _).run prog _=_;simp[bG,go_sem,resolve,Act.put]) (bZ rfl Tryz.func16 rfl) b ?_ ?_;rotate_left;rintro ch wx ⟨X,_⟩;cases X;rintro v w7 ⟨X,mp,kk,L,SS,R,b2⟩;cases X;refine mZ (val:=zi 0) kQ ⟨rfl,rfl⟩ ?_;refine Jc.nil bQ kQ ?_;refine(show Xn _ 9 _ PX _ w7 from ?_);simp only[Act.put,xv,Zz,Z9];have hL:=cQ R.same;subst hL;obtain⟨G,l⟩:∃G,G=Wp r0 kk SS []:=⟨_,rfl⟩;obtain⟨q,n⟩:∃q,q=V4 SS kk []:=⟨_,rfl⟩;have I7:Hid<|Wy G q:=by show Wy _ _;rw[l,n];exact R.inv SS<|by rw[bd.o];omega
 have T7:Hid<|jt B r0 b3 G w7:=by show jt _ _ _ _ _;rw[l];exact b2
 have Q7:Hid<|G.sn=bO q:=by show _=_;rw[l,n];exact ZZ R
 have E7:Hid<|q.ep=0:=by show _=_;rw[n];exact R.ep
 have K:Hid<|q.L=[]/\q.P=[]/\G.cnt=0/\G.op=1:=by
  refine⟨by rw[n];rfl,by rw[n];rfl, ?_, ?_⟩;rw[l];exact R.cnt.trans bl.o;rw[l];show r0.op+1=1;rw[bd.o]
 have O7:Hid<|∀x,G.own B x->w.heap.size<=x:=fun x o=>by
  rcases T7.o.own x o with N|N;exact O4.o x N;have:=(N4.o.trans N6.o).size;omega
 have N7:=zl<|jt.zP (N4.o.trans N6.o) T7.o O4.o;clear l n b2 R b bc G6;refine gG kQ J.o fun w8 cw Q V bx=>?_;have S8:=zl<|T7.o.at_.nw<|ji Q;have N8:Hid<|Nw w w8:=N7.o.trans<|ji Q;clear bx
 conv=>arg 2;whnf
 go_wp2_with fail
 refine(Dv B G [107] [118] _ S8.o fun t F=>by rw[Q7.o]at F;cases F;exact I7.o.P20).mono ?_;rintro e w9 ⟨aa,g,rfl,I,k⟩;obtain⟨rfl,pv,H⟩:aa=0/\∃pv,g={G with sn:=bO<|q.more pv<|.put [107] [118]}:=by
  unfold Sr.awaits at k;rw[Q7.o]at k;simp only at k;rw[aB<|by decide,aB<|by rw[K.o.2.1];simp]at k;exact k
 have T9:=zl I;have E9:=zl H;have I9:Hid<|Wy g<|q.more pv<|.put [107] [118]:=by
  show Wy _ _;rw[H];refine I7.o.swap rfl rfl rfl rfl rfl rfl (fun c W=>?_) ?_;rcases Je.1 W with W|W
  rw[K.o.2.1]at W;cases W;rw[jp.1 W];exact⟨by simp,by simp,by simp⟩;show(q.P++[_]).length<=20;rw[K.o.2.1];simp
 have G9:Hid<|g.gets [107]=([118],0):=by
  show _=_;rw[SY<|by rw[H],aB<|by decide];have:(q.more pv<|.put [107] [118]).now=[([107],[118])]:=by
   unfold Jo.now Jo.more;simp only;rw[K.o.1,K.o.2.1];rfl
  rw[this];rfl
 have O9:Hid<|∀x,g.own B x->w.heap.size<=x:=fun x o=>by
  rcases I.own x o with N|N;exact O7.o x N;have:=N8.o.size;omega
 have N9:=zl<|jt.zP N8.o I O7.o;clear I k H
 go_wp2_with fail
 refine V.o _ _ ?_;clear V;refine gG kQ J.o fun cn cc r y bf=>?_;have bo:=zl<|T9.o.at_.nw<|ji r;have b7:Hid<|Nw w cn:=N9.o.trans<|ji r;clear bf
 conv=>arg 2;whnf
 go_wp2_with fail
 refine(TM B g [107] _ bo.o fun t F=>by rw[E9.o]at F;cases F;exact I9.o.P20).mono ?_;rintro e co ⟨rfl,E⟩;rw[G9.o];have ce:=zl<|bo.o.nw E;have b8:Hid<|Nw w co:=b7.o.trans E;clear E
 go_wp2_with fail
 refine y.o _ _ ?_;clear y;refine gG kQ J.o fun cp cd s z bg=>?_;have cf:=zl<|ce.o.nw<|ji s;have b9:Hid<|Nw w cp:=b8.o.trans<|ji s;clear bg
 conv=>arg 2;whnf
 go_wp2_with fail
 refine(x_ B g _ cf.o).mono ?_;rintro e cq ⟨rfl,bh⟩;have ci:=zl bh;rw[show(if g.sn.isSome then(0:Int)else 5)=0 by rw[E9.o];rfl];have be:=zl<|jt.zP b9.o bh O9.o;clear bh
 go_wp2_with fail
 refine z.o _ _ ?_;clear z;have bk:=HG.o.but be.o fun _ x=>x.elim;have bm:Wy g.shut<|q.more pv<|.put [107] [118]:=I9.o.tV bN;have h:g.shut.op=1:=by show g.op=1;rw[E9.o];exact K.o.2.2.2
 have b:=Ny ci.o.at_ rfl bm (by rw[h];omega) bk (fun x o=>by have:=O9.o x<|Wy.fP o;omega);refine Xn.seq bQ kQ trivial ?_
 conv=>arg 3;whnf
 refine Xn.dB bQ kQ ?_;refine Jc.value (val:=zo B) (w':=cq) bQ kQ rfl (fun t d=>⟨t,d,by show(bG _ _).run prog _=_;simp[bG,go_sem]⟩) ?_;refine Jc.call bQ kQ rfl rfl (fun v=>by show(bG _ _).run prog _=_;simp[bG,go_sem,resolve,Act.put]) (bZ rfl Tryz.func16 rfl) b ?_ ?_;rotate_left;rintro ch wx ⟨X,_⟩;cases X;rintro v bj ⟨X,cz,f,L2,j,R2,i⟩;cases X;refine mZ (val:=zi 0) kQ ⟨rfl,rfl⟩ ?_;refine Jc.nil bQ kQ ?_;refine(show Xn _ 9 _ PX _ bj from ?_);simp only[Act.put,xv,Zz,Z9];have ck:=cQ (by have:=R2.same;rwa[show(q.more pv<|.put [107] [118]).L=[]from K.o.1]at this);subst ck;have a:Hid<|U0 cv tv w.heap.size B (Wp g.shut f j []) (V4 j f []) bj:=by
  refine⟨i.at_,ZZ R2,R2.inv j<|by rw[h];omega,rfl,rfl, ?_, ?_, ?_,rfl,fun x o=>?_⟩;show f.cnt=0;rw[R2.cnt];show g.cnt=0;rw[E9.o];exact K.o.2.2.1;show g.shut.op+1=2;rw[h];show f.ep=0;rw[R2.ep];exact E7.o;rcases i.own x o with N|N
  exact O9.o x<|Wy.fP N;have:=be.o.size;omega
 have ca:=zl<|jt.zP be.o i fun x o=>O9.o x<|Wy.fP o;have b4:Hid<|(Wp g.shut f j []).gets [107]=([],8):=by
  show _=_;rw[SY a.o.sn,aB<|by decide];rfl
 clear i R2 b bk bm h;generalize Wp g.shut f j []=r3 at*;generalize V4 j f []=s3 at*;refine mY kQ J.o fun c0 cr O bt=>?_;have cg:=zl<|a.o.st.nw<|ji O;have cb:=zl<|ji O
 conv=>arg 2;whnf
 go_wp2_with fail
 refine(TM B r3 [107] _ cg.o fun t F=>by rw[a.o.sn]at F;cases F;exact a.o.inv.P20).mono ?_;rintro e w16 ⟨rfl,Y⟩;rw[b4.o];have bn:Hid<|Nw bj w16:=cb.o.trans Y;have hv:(st [118]).toList=[118]:=xo _;have X:(st ([]:Zl)).toList=[]:=xo _;clear Y
 go_wp2_with fail
 refine bt.o .ret _ _ ?_;rw[<-b5.o];refine⟨rfl,zo B,fun t d=>⟨t,d, ?_⟩,B,r3,s3,rfl,⟨a.o.st.nw bn.o,a.o.sn,a.o.inv,a.o.L,a.o.P,a.o.cnt,a.o.op,a.o.ep,a.o.bP,a.o.own⟩,ca.o.trans bn.o⟩;show(aN Tryz.f9 _).run prog _=_;simp[aN,Tryz.results9,go_sem]
end
end P
namespace P
open Go.RowKit
section
variable {F G:Ym}
end
def tK(x:Int×Zl):Prop:=x.2≠[]/\i64 x.1/\x.2.length<=1000000
def uE:∀(l:FL) (F:Ym),fM F->jX F->(∀x∈l,tK x)->(l.map (·.1)).Nodup->fM (fG F l)/\jX (fG F l)/\(∀x∈l,qu (fG F l) x.1=x.2)/\∀n,n∉l.map (·.1)->qu (fG F l) n=qu F n
 |[],F,hg,he,_,_=>⟨hg,he,fun x c=>(by cases c),fun _ _=>rfl⟩
 |x::l,F,hg,he,c,b=>by
  have⟨h1,h2,h3⟩:=c x (by simp);have e:fF F x.1 (x.2,(x.2.length:Int))=Yx F x.1 (x.2,(x.2.length:Int)):=by unfold Yx;rw[aB h1]
  have b:=Zr.1 b;obtain⟨f,g,i,d⟩:=uE l (Yx F x.1 (x.2,(x.2.length:Int))) (hg.lay _ _) (he.lay h2 ⟨by omega,by simp,h3⟩) (fun y a=>c y<|by simp[a]) b.2;have q:fG F (x::l)=fG (Yx F x.1 (x.2,(x.2.length:Int))) l:=by rw[<-e];rfl
  rw[q];refine⟨f,g,fun y a=>?_,fun n h=>?_⟩;rcases xf.1 a with rfl|a
  rw[d _ b.1,uS hg,aA rfl];exact i y a;rw[d n fun y=>h<|by simp only[xq,xf];exact .inr y,uS hg,aB fun y=>h<|by simp[y]]
def bR(F:Ym):FL:=(Xs F).map fun n=>(n,qu F n)
def Wy.le{r:Sr}{s:Jo}(I:Wy r s):(Y0 (Jp r.m [] 0 0 0) r.d.L).dK<=20000/\∀n,qu r.d.L n≠[]->0<=n/\n<=20000:=by
 obtain⟨h,w,q,i,D⟩:=I.dsk;have p:=AR r.m r.d.L;have a:0<=(Y0 (Jp r.m [] 0 0 0) r.d.L).dK/\(Y0 (Jp r.m [] 0 0 0) r.d.L).dK<=20000:=by
  rcases P9 r.m r.d.L with b|⟨f,b,c,t,v⟩;omega;have k:(Y0 (Jp r.m [] 0 0 0) r.d.L).named=((iL<|qu r.d.L 0).file:Int):=by unfold Y0;rw[aB c];rfl
  have l:=D.named;have o:=I.named;omega
 refine⟨a.2,fun n g=>?_⟩;have j:=D.ok.low;rcases D.ok.own n g with e|e|e<;>omega
def jV(l:FL):Ze:=l.flatMap fun x=>[.int .i64 x.1,.string<|st x.2]
def pR(F:Ym):sJ F (Xs F)=jV (bR F):=by
 unfold sJ jV bR;rw[List.flatMap_map]
def jN(F:Ym):(bR F).length=(Xs F).length:=Zb _
def lS:∀(l:FL) (i:Nat) (h:i<l.length),(jV l)[i*2]?=bO (zi l[i].1)/\(jV l)[i*2+1]?=bO (.string<|st l[i].2)
 |x::l,0,_=>⟨rfl,rfl⟩
 |x::l,i+1,h=>by
  have:=lS l i (by simpa using h);have e:jV (x::l)=zi x.1::zs x.2::jV l:=rfl;rw[e,show(i+1)*2=i*2+1+1 by omega,show i*2+1+1+1=(i*2+1)+1+1 by omega];simp only[Xb,List.getElem_cons_succ];exact this
def jP{w:Zy}{B:Nat}{v:Zv}{l:FL}(h:w.ownsRow B 36 2 v l.length<|jV l):FM w v l:=by
 by_cases e:l.length=0;obtain⟨a,c,rfl,_⟩:=Jh h;obtain rfl:=xa e;exact⟨a,0,c,rfl,fun x=>absurd rfl x,fun i d=>absurd d<|Wd _⟩;obtain⟨g,c,rfl,f,b⟩:=uD h (by omega);exact⟨_,g,c,rfl,fun _=>rfl,fun i d=>⟨b _ _ (lS l i d).1,b _ _ (lS l i d).2⟩⟩
def rF{w:Zy}{B:Nat}{v:Zv}{l:FL}(h:w.ownsRow B 36 2 v l.length<|jV l):∃p g cap,v= .slice p l.length cap/\(l≠[]->p=bO ⟨g,0,bN⟩/\B<=g)/\∀i (h:i<l.length),w.cell? (zq g<|i*2)=bO (zi l[i].1)/\w.cell? (zq g<|i*2+1)=bO (.string<|st l[i].2):=by
 obtain⟨p,g,cap,rfl,b,c⟩:=jP h;refine⟨p,g,cap,rfl,fun a=>⟨b a, ?_⟩,c⟩;exact Vs h g<|by rw[b a];rfl
def uC{F:Ym}(g:fM F):(Xs F).Pairwise (·<·):=by
 have d:(Xs F).Pairwise (·<=·):=(PR (le:=zM) (fun a b c d e=>by simp[zM]at*;omega) (fun a b=>by simp[zM];omega) _).imp fun h=>by simpa[zM]using h
 have e:(Xs F).Nodup:=(Xw _ _).nodup_iff.2 g.nd;exact(d.and e).imp fun h=>by omega
def eO(l:FL):Int:=(l.map fun x=>(x.2.length:Int)).sum
def holds_of(l:FL)(R:Int)(n:(l.map (·.1)).Pairwise (·<·))(j:∀x∈l,0<=x.1/\x.2≠[])(p:eO l<=R)(o:R<=1000000000):
  ∃ab rm:Nat->Int,ab 0= -1/\rm 0=R/\∀k (h:k<l.length),ab (k+1)=l[k].1/\rm (k+1)=rm k-(l[k].2.length:Int)/\ab k<l[k].1/\l[k].2≠[]/\(l[k].2.length:Int)<=rm k/\rm k<=1000000000:=by
 have d:∀l:FL,0<=eO l:=fun l=>by
  induction l with
  |nil=>exact Int.le_refl _
  |cons x l ih=>unfold eO at*;rw[xq,Vq];omega
 have c:∀a b:FL,eO (a++b)=eO a+eO b:=fun a b=>by unfold eO;rw[Jd,List.sum_append]
 refine⟨fun k=>match k with|0=>-1|k+1=>(l[k]?.map (·.1)).getD 0,fun k=>R-eO (l.take k),rfl, ?_,fun k h=>?_⟩;show R-eO []=R;unfold eO;simp;have e:l.take (k+1)=l.take k++[l[k]]:=xy h;have f:eO [l[k]]=(l[k].2.length:Int):=by unfold eO;simp
 have g:=c (l.take<|k+1)<|l.drop<|k+1;rw[PW]at g;have i:=c (l.take k) [l[k]];rw[<-e,f]at i;have q:=d<|l.drop<|k+1;have r:=d<|l.take k;have m:=j l[k]<|Zn h;refine⟨by simp[h],by show R-eO (l.take<|k+1)=R-eO (l.take k)-_;omega, ?_,m.2,by show _<=R-_;omega,by show R-_<=_;omega⟩;cases k with
 |zero=>show(-1:Int)<_;omega
 |succ k=>
  have hk:k<l.length:=by omega
  show(l[k]?.map (·.1)).getD 0<_;rw[Yh hk];have:=List.pairwise_iff_getElem.1 n k (k+1) (by simpa using hk) (by simpa using h) (by omega);simpa using this
def rD{F:Ym}(g:fM F):(bR F).Perm<|F.map fun p=>(p.1,p.2.1):=by
 have b:(bR F).Perm ((F.map (·.1)).map fun n=>(n,qu F n)):=(Xw _ _).map _;refine b.trans<|.of_eq ?_;rw[uP];refine List.map_congr_left fun p a=>?_;show(p.1,qu F p.1)=_;have:J9 F p.1=bO p.2:=by
  have h:=g.nd;clear b g;induction F with
  |nil=>cases a
  |cons q F ih=>
   obtain⟨k,v⟩:=q;have c:=Zr.1 h;unfold J9;rcases xf.1 a with rfl|a
   rw[aA rfl];rw[aB fun e=>c.1<|by rw[<-e];exact qp.2 ⟨p,a,rfl⟩];exact ih a c.2
 unfold qu;rw[this];rfl
def uL{a b:List Int}(h:a.Perm b):a.sum=b.sum:=by
 induction h with
 |nil=>rfl
 |cons x _ ih=>rw[Vq,Vq,ih]
 |swap x y l=>simp only[Vq];omega
 |trans _ _ h1 h2=>exact h1.trans h2
def uH{F:Ym}(g:fM F):eO (bR F)=J6 F:=by
 have h:=((rD g).map fun x=>(x.2.length:Int));unfold eO J6;rw[uL h,uP];rfl
def vbb{k k':Lk}{L L':KV}{b:Bool}{c:Nat}{hd bd tg:Zl}(h:lN k L b c hd bd tg=bO (k',L')):k'.cnt=c:=by
 unfold lN at h
 repeat' split at h
 all_goals first|(cases h;rfl)|cases h
def vaf{k k':Lk}{L L':KV}{l:Zl}(h:lY k L l=bO (k',L')):k'.cnt=k.cnt+1:=by
 unfold lY jJ at h;split at h;cases h
 ·rename_i a
  have a:=jr a
  repeat' split at h
  all_goals first|(rw[vbb h,a])|cases h
def var:∀(n:Nat) {k k':Lk} {L L':KV} {y r:Zl},y.length<=n->recs k L y=bO (k',L',r)->k.cnt<=k'.cnt
 |n,k,k',L,L',y,r,hn,h=>by
  cases hh:X7 y with
  |false=>rw[KH hh]at h;cases h;exact ze _
  |true=>
   cases hr:lY k L y with
   |none=>rw[JJ hh hr]at h;cases h
   |some p=>
    rw[zX hh hr]at h;have:=Wa hh
    match n,hn with
    |0,hn=>omega
    |n+1,hn=>
     have:=var n (by rw[jb];omega) h;have:=vaf hr;omega
def vah{k q:Lk}{L L1:KV}{y:Zl}(hy:y≠[])(h:recs k L y=bO (q,L1,[])):k.cnt<q.cnt:=by
 cases hh:X7 y with
 |false=>rw[KH hh]at h;cases h;exact absurd rfl hy
 |true=>
  cases hq:lY k L y with
  |none=>rw[JJ hh hq]at h;cases h
  |some p=>
   rw[zX hh hq]at h;have:=var _ (ze _) h;have:=vaf hq;omega
def vam:∀(n:Nat) {k q k2:Lk} {L L1 L2:KV} {x z r:Zl},x.length<=n->z≠[]->recs k L (x++z)=bO (q,L1,[])->recs k L x=bO (k2,L2,r)->k2.cnt<q.cnt
 |n,k,q,k2,L,L1,L2,x,z,r,hn,hz,h,h2=>by
  cases hx:X7 x with
  |true=>
   obtain⟨a,c,b⟩:=rec_app (k:=k) (L:=L) hx z;have d:=Wa hx;cases hr:lY k L x with
   |none=>rw[JJ hx hr]at h2;cases h2
   |some p=>
    rw[zX hx hr]at h2;rw[zX c<|b.trans hr,a,Yj<|by omega]at h
    match n,hn with
    |0,hn=>omega
    |n+1,hn=>exact vam n (by rw[jb];omega) hz h h2
  |false=>
   rw[KH hx]at h2;cases h2;exact vah (by simp[hz]) h
def vav{k q k2:Lk}{L L1 L2:KV}{num j:Nat}{x:Zl}(h:oZ k L num x q L1)(m:j<x.length)(c:eP k L num (x.take j)=bO (k2,L2)):k2.cnt<q.cnt:=by
 obtain⟨y,rfl,s,l⟩:=h;have f:=zz6 num<|k.cnt+1;have d:∀{g:Lk} {i:KV} {a b:Nat},Wq g i num a b=bO (k2,L2)->k2.cnt=g.cnt:=fun h=>by
  unfold Wq at h
  repeat' split at h
  all_goals first|(cases h;rfl)|cases h
 by_cases t:9<=j;have e:(nE num (k.cnt+1)++y).take j=nE num (k.cnt+1)++y.take (j-9):=by rw[List.take_append,f,qj<|by omega]
 have n:j-9<y.length:=by rw[zj,f]at m;omega
 have o:(nE num (k.cnt+1)++y.take (j-9)).take 9=83::(nb num 4++nb (k.cnt+1) 4):=Zd f;rw[e,zs0 (by simp only[zj];omega) o,Z6 f]at c;cases hq:recs k L (y.take<|j-9)with
 |none=>rw[hq]at c;cases c
 |some p=>
  obtain⟨g,i,r⟩:=p;rw[hq]at c;rw[d c];exact vam _ (ze _) (z:=y.drop<|j-9) (by intro e;have:=congrArg List.length e;rw[jb]at this;simp at this;omega) (by rw[PW];exact l) hq
 rw[rB (x:=(nE num (k.cnt+1)++y).take j)<|by rw[xt];omega]at c;rw[d c];exact vah s l
def vau{F G:Ym}(k:Lk)(a:qu F 0=qu G 0)(b:qu F 10001=qu G 10001)(c:qu F 10002=qu G 10002):Wr k F=Wr k G:=by
 unfold Wr;rw[a];have:Y6 (iL<|qu G 0) F=Y6 (iL<|qu G 0) G:=by
  funext ck;unfold Y6 nN
  repeat' split
  all_goals first|rfl|skip
  rename_i e
  rcases e with e|e<;>rw[e]
  exact congrArg (fun z=>(bO z).bind _) b;exact congrArg (fun z=>(bO z).bind _) c
 rw[this]
def clip{m mark x:Zl}{F G:Ym}{L0 L:KV}{xs:List Zl}{q:Lk}(h:wY m F L0 (xs++[x]) q L){j:Nat}(R:j<x.length)(o:∀n:Int,qu G n=if n=(Y0 (Jp m [] 0 0 0) F).base+xs.length+1 then x.take j else qu F n)(op:Int)(mp:Nat):
  Yu (Jp m mark q.cnt op mp) G=bN:=by
 have Q:=AR m F;have w:=h.low;rw[zj,jd]at w;have O:(Y0 (Jp m mark q.cnt op mp) F).base=(Y0 (Jp m [] 0 0 0) F).base:=Us (Jp m mark q.cnt op mp) F rfl;have B:=h.start mark op mp;rw[vau (G:=G) _ (by rw[o,aB<|by omega]) (by rw[o,aB<|by omega])<|by rw[o,aB<|by omega]]at B;obtain⟨s,t,c,D⟩:∃s t,jY ((Y0 (Jp m [] 0 0 0) F).base.toNat+1) (Y0 (Jp m [] 0 0 0) F) L0 xs s t/\oZ s t ((Y0 (Jp m [] 0 0 0) F).base.toNat+1+xs.length) x q L:=by
  have c:=h.log;generalize hys:xs++[x]=ys at c;cases c with
  |nil=>simp at hys
  |snoc h D=>
   obtain⟨rfl,e⟩:=List.append_inj' hys rfl;cases e;exact⟨_,_,h,D⟩
 have d:∀i (r:i<xs.length),qu G (((Y0 (Jp m [] 0 0 0) F).base.toNat+1+i:Nat):Int)=xs[i]:=fun i r=>by
  rw[o,aB<|by omega,h.dY i<|by simp;omega,XU r]
 have f:qu G (((Y0 (Jp m [] 0 0 0) F).base.toNat+1+xs.length+1:Nat):Int)=[]:=by
  rw[o,aB<|by omega];have:=h.stop;rwa[zj,jd]at this
 have g:qu G (((Y0 (Jp m [] 0 0 0) F).base.toNat+1+xs.length:Nat):Int)=x.take j:=by rw[o,aA<|by omega]
 have K:(Y0 (Jp m [] 0 0 0) F).m=m:=by unfold Y0;split<;>rfl
 have z:(Y0 (Jp m mark q.cnt op mp) F).m=m:=by unfold Y0;split<;>rfl
 have C:(Y0 (Jp m mark q.cnt op mp) F).tc=q.cnt:=by unfold Y0;split<;>rfl
 have H:∀l,({Y0 (Jp m mark q.cnt op mp) F with last:=l}:Lk)=({Y0 (Jp m mark q.cnt op mp) F with last:=l}:Lk).set (Y0 (Jp m [] 0 0 0) F):=fun l=>by
  unfold Y0;split<;>rfl
 have b:∀l,dJ (fun i=>qu G (i:Int)) ((Y0 (Jp m [] 0 0 0) F).base.toNat+1) {Y0 (Jp m mark q.cnt op mp) F with last:=l} L0 xs.length=bO (({Y0 (Jp m mark q.cnt op mp) F with last:=l}:Lk).set s,t):=fun l=>by
  have:=(c.set (k:={Y0 (Jp m mark q.cnt op mp) F with last:=l})<|K.trans z.symm).dJ (fs:=fun i=>qu G (i:Int)) d;rwa[<-H]at this
 dsimp only at b;have E:(Y0 (Jp m mark q.cnt op mp) F).base.toNat=(Y0 (Jp m [] 0 0 0) F).base.toNat:=by rw[O]
 unfold Yu;rw[B];simp only;rw[E];by_cases N:j=0;subst N;have a:Jl G (Y0 (Jp m [] 0 0 0) F).base.toNat=(Y0 (Jp m [] 0 0 0) F).base.toNat+xs.length:=Ni _ _ (by omega) (fun i r=>by rw[d i r];exact c.ne _<|Zn r) (by rw[g];rfl);rw[a,Nat.add_sub_cancel_left,b];simp only;refine aB ?_;obtain⟨y,rfl,T,S⟩:=D;have:=vah T S;rintro(⟨e,_⟩|⟨e,_⟩)<;>(have e:(s.cnt:Int)=_:=e;simp only[Lk.set,C]at e;omega)
 have a:Jl G (Y0 (Jp m [] 0 0 0) F).base.toNat=(Y0 (Jp m [] 0 0 0) F).base.toNat+(xs.length+1):=Ni _ _ (by omega) (fun i r=>by
  by_cases v:i<xs.length;rw[d i v];exact c.ne _<|Zn v;obtain rfl:i=xs.length:=by omega
  rw[g];intro e;have:=congrArg List.length e;rw[xt,jn]at this;omega) f
 rw[a,Nat.add_sub_cancel_left,Rp<|b _];rw[g];cases e:eP (({Y0 (Jp m mark q.cnt op mp) F with last:=(((Y0 (Jp m [] 0 0 0) F).base.toNat+(xs.length+1):Nat):Int)}:Lk).set s) t ((Y0 (Jp m [] 0 0 0) F).base.toNat+1+xs.length) (x.take j)with
 |none=>rfl
 |some p=>
  obtain⟨M,U⟩:=p;have I:=vav (D.set (k:={Y0 (Jp m mark q.cnt op mp) F with last:=(((Y0 (Jp m [] 0 0 0) F).base.toNat+(xs.length+1):Nat):Int)})<|c.m.trans<|K.trans z.symm) R e;have J:=xoa e;have J:M.tc=q.cnt:=J.trans C;have I:M.cnt<q.cnt:=I;refine aB ?_;rintro(⟨e,_⟩|⟨e,_⟩)<;>omega
end P
namespace P
open A.Tryq Go.RowKit
def Wy.clipped{r:Sr}{s:Jo}(I:Wy r s)(o:s.base<s.last):∃N:Int,(1<=N/\N<=9999)/\qu r.d.L N≠[]/\(∀n,qu r.d.L n≠[]->1<=n/\n<=9999->n<=N)/\
  ∀j G,j<(qu r.d.L N).length->(∀n,qu G n=if n=N then(qu r.d.L N).take j else qu r.d.L n)->∀op mp,Yu (Jp r.m r.mark r.cnt op mp) G=bN:=by
 obtain⟨t,f,q,L,D⟩:=I.dsk;have l:=AR r.m r.d.L;have a:=D.last;have i:f≠[]:=fun e=>by rw[e]at a;simp at a;omega
 obtain⟨c,x,rfl⟩:∃c y,f=c++[y]:=⟨f.dropLast,f.getLast i,(List.dropLast_concat_getLast i).symm⟩;have b:=D.ok.low;rw[zj,jd]at b;have k:qu r.d.L ((Y0 (Jp r.m [] 0 0 0) r.d.L).base+c.length+1)=x:=by
  have:=D.ok.dY c.length (by simp);rw[XT<|by omega]at this;simp only[V9,List.getElem_cons_zero]at this;rw[<-this]
  congr 1
  omega
 refine⟨(Y0 (Jp r.m [] 0 0 0) r.d.L).base+c.length+1,by omega, ?_,fun n p v=>?_,fun j G h g op mp=>?_⟩;rw[k];exact D.ok.log.ne x (by simp);rcases D.ok.own n p with e|e|e
 omega;have:=D.ok.uO (n:=n.toNat) (by omega) (by omega);omega;simp only[zj,jd]at e;omega;rw[k]at h g;have:=clip D.ok (mark:=r.mark) h g op mp;rwa[D.cnt]at this
def vab(N:Int)(j:Nat)(x:Int×Zl):Int×Zl:=if x.1=N then(x.1,x.2.take j)else x
def vaa(N:Int)(j:Nat)(l:FL):FL:=(l.map<|vab N j).filter fun x=>decide (x.2≠[])
def vaz(N:Int)(j:Nat)(x:Int×Zl):(vab N j x).1=x.1:=by unfold vab;split<;>rfl
def vax(N:Int)(j:Nat)(l:FL)(k:Nat)(h:k<l.length):vaa N j (l.take<|k+1)=vaa N j (l.take k)++if(vab N j l[k]).2≠[]then [vab N j l[k]]else []:=by
 unfold vaa;rw[xy h,Jd,List.filter_append]
 congr 1
 by_cases e:(vab N j l[k]).2=[]<;>simp[e]
def vak(N:Int)(j:Nat)(l:FL):((vaa N j l).map (·.1)).Sublist (l.map (·.1)):=by
 have h:=(List.filter_sublist (p:=fun x:Int×Zl=>decide (x.2≠[])) (l:=l.map<|vab N j)).map (·.1);rw[uP]at h;rwa[show((·.1)∘vab N j)=(·.1)from funext fun x=>vaz N j x]at h
def vao(N:Int)(j:Nat)(l:FL):(vaa N j l).length<=l.length:=by
 have:=(vak N j l).length_le;simpa using this
def van{N:Int}{j:Nat}{l:FL}{y:Int×Zl}:y∈vaa N j l↔y.2≠[]/\∃x∈l,vab N j x=y:=by
 unfold vaa;simp[IC,and_comm]
def vai(N:Int)(j:Nat):∀l:FL,eO (vaa N j l)<=eO l
 |[]=>Int.le_refl _
 |x::l=>by
  have a:=vai N j l;have b:((vab N j x).2.length:Int)<=x.2.length:=by
   unfold vab;split;simp only[xt];omega;exact Int.le_refl _
  unfold vaa eO at a⊢;rw[xq,List.filter_cons];split;simp only[xq,Vq];omega;simp only[xq,Vq];omega
def vas:∀(l:FL) (F:Ym),(fG F l).length<=F.length+l.length
 |[],F=>ze _
 |x::l,F=>by
  have:=vas l<|fF F x.1 (x.2,x.2.length);have:=TI F x.1 (x.2,(x.2.length:Int));simp only[zh];show(fG (fF F x.1 (x.2,x.2.length)) l).length<=_;omega
def Wy.cut{r:Sr}{s:Jo}(I:Wy r s)(M:r.cnt<=38)(N:Int)(j:Nat):
  (vaa N j<|bR r.d.L).length<=40/\(∀n,qu (fG []<|vaa N j<|bR r.d.L) n=if n=N then(qu r.d.L N).take j else qu r.d.L n)/\(mE (fG []<|vaa N j<|bR r.d.L)/\(fG []<|vaa N j<|bR r.d.L).length<=1000/\∀n,(qu (fG []<|vaa N j<|bR r.d.L) n).length<=100000)/\
  ∃ab rm:Nat->Int,ab 0= -1/\rm 0=r.d.room/\∀k (h:k<(vaa N j<|bR r.d.L).length),ab (k+1)=(vaa N j<|bR r.d.L)[k].1/\rm (k+1)=rm k-((vaa N j<|bR r.d.L)[k].2.length:Int)/\ab k<(vaa N j<|bR r.d.L)[k].1/\(vaa N j<|bR r.d.L)[k].2≠[]/\((vaa N j<|bR r.d.L)[k].2.length:Int)<=rm k/\rm k<=1000000000:=by
 have v:((bR r.d.L).map (·.1)).Pairwise (·<·):=by
  have:=uC I.gd;rwa[bR,uP,show((·.1)∘fun n=>(n,qu r.d.L n))=id from rfl,List.map_id]
 have o:=v.sublist<|vak N j _;have m:=I.le;have i:∀{n:Int},(vab N j (n,qu r.d.L n))=(n,if n=N then(qu r.d.L N).take j else qu r.d.L n):=fun {n}=>by
  unfold vab;by_cases e:n=N;simp[e];simp[e]
 have c:∀y∈vaa N j (bR r.d.L),y.2≠[]/\qu r.d.L y.1≠[]/\y.2=if y.1=N then(qu r.d.L N).take j else qu r.d.L y.1:=fun y f=>by
  obtain⟨g,x,H,rfl⟩:=van.1 f;obtain⟨n,G,rfl⟩:=qp.1 H;rw[i]at g⊢;exact⟨g,I.gd.nums.1 G,rfl⟩
 have t:∀y∈vaa N j (bR r.d.L),tK y:=fun y f=>by
  obtain⟨g,l,E⟩:=c y f;have:=m.2 _ l;refine⟨g,by unfold i64;omega, ?_⟩;have l1:=I.jD y.1;have J:=I.jD N;rw[E];split;rw[xt];omega;omega
 obtain⟨K,z,B,C⟩:=uE (vaa N j<|bR r.d.L) [] fM.nil (fun p v=>by cases v) t (o.imp fun h=>by omega);have F:(vaa N j<|bR r.d.L).length<=40:=by
  have:=vao N j<|bR r.d.L;rw[jN,yZ]at this;have:=I.few;omega
 have w:∀n,qu (fG []<|vaa N j<|bR r.d.L) n=if n=N then(qu r.d.L N).take j else qu r.d.L n:=fun n=>by
  have q:(∀y∈vaa N j (bR r.d.L),y.1≠n)->qu (fG []<|vaa N j<|bR r.d.L) n=[]:=fun h=>C n fun D=>by
   obtain⟨y,f,e⟩:=qp.1 D;exact h y f e
  by_cases g:qu r.d.L n=[];rw[q fun y f e=>(c y f).2.1<|by rw[e];exact g];split
  rename_i e;rw[<-e,g];simp
  exact g.symm;by_cases l:(if n=N then(qu r.d.L N).take j else qu r.d.L n)=[];rw[l];exact q fun y f e=>by
   obtain⟨a,_,b⟩:=c y f;rw[e]at b;exact a<|b.trans l
  exact B (n,if n=N then(qu r.d.L N).take j else qu r.d.L n)<|van.2 ⟨l,(n,qu r.d.L n),qp.2 ⟨n,I.gd.nums.2 g,rfl⟩,i⟩
 have l:=vas (vaa N j<|bR r.d.L) [];rw[jn]at l;refine⟨F,w,⟨⟨z,by omega⟩,by omega,fun n=>?_⟩,holds_of _ _ o (fun y f=>⟨(m.2 _ (c y f).2.1).1,(c y f).1⟩) ?_ ?_⟩;have l1:=I.jD n;have J:=I.jD N;rw[w];split;rw[xt];omega;omega;have:=vai N j<|bR r.d.L;rw[uH I.gd]at this;have:=I.fus;have:=I.cnt;rw[I.room];omega;rw[I.room];omega
def vae(l:FL)(k:Nat)(T:Int):Prop:=(T= -1/\∀i (h:i<l.length),i<k->¬(1<=l[i].1/\l[i].1<=9999))\/∃i0,∃h0:i0<l.length,T=(i0:Int)/\i0<k/\(1<=l[i0].1/\l[i0].1<=9999)/\∀i (h:i<l.length),i0<i->i<k->¬(1<=l[i].1/\l[i].1<=9999)
def vae.yes{l:FL}{k:Nat}(h:k<l.length)(a:1<=l[k].1/\l[k].1<=9999):vae l (k+1) k:= .inr ⟨k,h,rfl,by omega,a,fun i _ b c=>by omega⟩
def vae.no{l:FL}{k:Nat}{T:Int}(I:vae l k T)(h:k<l.length)(c:¬(1<=l[k].1/\l[k].1<=9999)):vae l (k+1) T:=by
 rcases I with⟨e,I⟩|⟨g,d,e,j,f,I⟩;refine .inl ⟨e,fun i a b=>?_⟩;by_cases e:i=k;subst e;exact c;exact I i a (by omega);refine .inr ⟨g,d,e,by omega,f,fun i a b m=>?_⟩;by_cases e:i=k;subst e;exact c;exact I i a b<|by omega
def Wy.vbm{r:Sr}{s:Jo}(I:Wy r s){N T:Int}(v:1<=N/\N<=9999)(w:qu r.d.L N≠[])(x:∀n,qu r.d.L n≠[]->1<=n/\n<=9999->n<=N)(k:vae (bR r.d.L) (bR r.d.L).length T):
  0<=T/\∀i (h:i<(bR r.d.L).length),(i:Int)=T↔(bR r.d.L)[i].1=N:=by
 have C:((bR r.d.L).map (·.1)).Pairwise (·<·):=by
  have:=uC I.gd;rwa[bR,uP,show((·.1)∘fun n=>(n,qu r.d.L n))=id from rfl,List.map_id]
 have c:∀i l (h:i<(bR r.d.L).length) (t:l<(bR r.d.L).length),i<l->(bR r.d.L)[i].1<(bR r.d.L)[l].1:=fun i l h t y=>by
  have:=List.pairwise_iff_getElem.1 C i l (by simpa using h) (by simpa using t) y;simpa using this
 have q:∀i (h:i<(bR r.d.L).length),qu r.d.L (bR r.d.L)[i].1≠[]:=fun i h=>by
  have:(bR r.d.L)[i]∈bR r.d.L:=Zn h;obtain⟨n,B,e⟩:=qp.1 this;rw[<-e];exact I.gd.nums.1 B
 obtain⟨f,j,p⟩:∃f,∃h:f<(bR r.d.L).length,(bR r.d.L)[f].1=N:=by
  have:(N,qu r.d.L N)∈bR r.d.L:=qp.2 ⟨N,I.gd.nums.2 w,rfl⟩;obtain⟨i,z,e⟩:=List.getElem_of_mem this;exact⟨i,z,by rw[e]⟩
 rcases k with⟨e,k⟩|⟨m,o,rfl,hk,D,k⟩;exact absurd (by rw[p];exact v)<|k f j j;have e0:m=f:=by
  rcases Nat.lt_trichotomy m f with h|h|h;exact absurd (by rw[p];exact v)<|k f j h j;exact h;have a:=c _ _ j o h;have b:=x _ (q m o) D;omega
 subst e0;refine⟨by omega,fun i h=>⟨fun e=>?_,fun e=>?_⟩⟩;obtain rfl:i=m:=by omega
 exact p;rcases Nat.lt_trichotomy i m with g|g|g
 have:=c _ _ h o g;omega;rw[g];have:=c _ _ o h g;omega
def pkN(c:Int)(n:Nat):Nat:=if c<0 then(-(c+1)).toNat%n else c.toNat%n
def vbj(c:Int){n:Nat}(h:0<n):pkN c n<n:=by unfold pkN;split<;>exact Nat.mod_lt _ h
def vbe(c:Int)(n:Nat)(l:0<n)(i:n<=100000)(j:-9223372036854775808<=c)(k:c<=9223372036854775807)(w:Zy):
  bE prog 14 #[zi c,zi n] w fun en w'=>en= .returned (zi (pkN c n:Nat))/\w'=w:=by
 have e:∀m:Nat,-((-(m:Int)).tmod (n:Int))=((m%n:Nat):Int):=fun m=>by rw[Int.neg_tmod,Int.neg_neg,Js<|by omega];rfl
 have a:Hid<|pkN c n=if c<0 then(-(c+1)).toNat%n else c.toNat%n:=rfl;by_cases h:c<0
 ·obtain⟨m,b⟩:∃m:Nat,c+1= -(m:Int):=⟨(-(c+1)).toNat,by omega⟩
  have f:=zl b;have d:=zl<|e m;have g:=zl h;clear e b;go_enter func14.1,Tryz.ntmps14
  go_wp2
  go_ret
  refine⟨congrArg (fun z:Int=>Ending.returned<|zi z) ?_,rfl⟩;rw[a.o,aA g.o,f.o,d.o];simp
 obtain⟨m,rfl⟩:∃m:Nat,c=m:=⟨c.toNat,by omega⟩;clear e;go_enter func14.1,Tryz.ntmps14
 go_wp2
 go_ret
 refine⟨congrArg (fun z:Int=>Ending.returned<|zi z) ?_,rfl⟩;rw[a.o,aB<|by omega];simp
end P
namespace P
open A.Tryq Go.RowKit Go.Extern.Stop Go.Stop Go.Extern
def vay(v:Zv)(w:Zy):(Extern.ReflectliteType.typeOf #[.iface 388 v]).run prog w= .ok (.iface 312<|.agg #[zk 5 388]) w:=by kernel_rfl
def vag(w:Zy):((Extern.ReflectliteType.method fun t=>do Extern.Rtype.noPackHeld "Comparable" t;(fun a=>Value.bool a.comparable) <$> typeInfo t) #[.agg #[zk 5 388]]).run prog w= .ok (.bool bL) w:=by kernel_rfl
def vbc(v:Zv)(w:Zy):(Go.method 521 312 v "Comparable").run prog w= .ok (340,v) w:=by kernel_rfl
def vbk:(prog.info? 388).map (·.comparable)=bO bL:=by kernel_rfl
def vbi:(prog.info? 410).map (·.size)=bO 1:=by kernel_rfl
def lacks{i:Zt}{ms:Array<|String×Zt}(a:prog.underlying i=bO (.interface ms))(h:(prog.info? 388).map (fun i=>(lacking ms i.methods).isEmpty)=bO bK)(b:(prog.info? i).map (·.zero)=bO (bO .nilIface)):
  ∀v xT w,(Instr.typeAssert (.iface 388 v) xT i bL).run prog w= .ok (.tuple #[.nilIface,.bool bK]) w:=run_typeAssert_lacksB a h b
def vbn(a b:Addr)(t:Bool)(w:Zy)(c:(binOp .eql 212 (.iface 388<|.pointer<|bO a)<|.iface 388<|.pointer<|bO b).run prog w= .ok (.bool t) w):
  bE prog 204 #[.iface 388<|.pointer<|bO a,.iface 388<|.pointer<|bO b,.bool bL] w fun e w'=>e= .returned (.bool t)/\w'=w:=by
 have d:=lacks (show prog.underlying 314=_ from Tryz.underlying314) (by kernel_rfl) (by kernel_rfl);have f:=lacks (show prog.underlying 317=_ from Tryz.underlying317) (by kernel_rfl) (by kernel_rfl);have g:=lacks (show prog.underlying 319=_ from Tryz.underlying319) (by kernel_rfl) (by kernel_rfl);go_enter func204.1,Tryz.ntmps204
 go_wp2_with fail
 refine wp_loop_rounds 1 ?_;rw[rounds_succ];cases t
 all_goals
  go_wp2_with fail
  go_ret
  exact⟨rfl,rfl⟩
def vbh(a b:Addr)(t:Bool)(w:Zy)(c:(binOp .eql 212 (.iface 388<|.pointer<|bO a)<|.iface 388<|.pointer<|bO b).run prog w= .ok (.bool t) w):
  bE prog 133 #[.iface 388<|.pointer<|bO a,.iface 388<|.pointer<|bO b] w fun e w'=>e= .returned (.bool t)/\w'=w:=by
 have h:=@run_callFunc_extern prog 203 _ _ func203 (by kernel_rfl) (by kernel_rfl) A.xxb A.xxo;have f:=@run_callFunc_extern prog 340 _ _ func340 (by kernel_rfl) (by kernel_rfl) A.xxd A.xxq;have j:=vay;have g:=vag;have i:=vbc;have d:=zl<|vbn a b t w c;clear c;go_enter func133.1,Tryz.ntmps133
 go_wp2_with fail
 refine d.o.mono ?_;rintro e w' ⟨rfl,rfl⟩
 go_wp2_with fail
 go_ret
 exact⟨rfl,rfl⟩
def vac(lo:Nat)(cv tv:Zv)(w:Zy):Prop:=∃a b ca cb ta tb,cv= .iface 388 (.pointer<|bO a)/\tv= .iface 388 (.pointer<|bO b)/\b≠a/\a.block<lo/\b.block<lo/\w.heap[a.block]?=bO (.cells ca ta (0,0))/\w.heap[b.block]?=bO (.cells cb tb (0,0))
def vaw{cv tv:Zv}{lo:Nat}(B:Nat)(w:Zy)(n:vac lo cv tv w)(q:w.cell? (zq 0 0)=bO cv)(r:w.cell? (zq 1 0)=bO tv):
  bE prog 80 #[zo B,tv] w fun e w'=>e= .returned (zi 11)/\w'=w:=by
 obtain⟨a,b,o,p,v,x,rfl,rfl,h,_,_,k,l⟩:=n;obtain⟨i,f,c⟩:=zt.1 vbk;obtain⟨j,g,d⟩:=zt.1 vbi;have s:=run_typeAssert_hasB (P:=prog) (t:=388) (show prog.underlying 212=_ from Tryz.underlying212) (by kernel_rfl);have I1:=zl<|vbh b a bK w<|run_eql_iface_ptr_other (P:=prog) w (show prog.underlying 212=_ from Tryz.underlying212) (show prog.underlying 388=_ from Tryz.underlying388) f c g (by rw[d];decide) h l k;have m:=zl<|vbh b b bL w<|run_eql_iface_ptr_same (P:=prog) w b (show prog.underlying 212=_ from Tryz.underlying212) (show prog.underlying 388=_ from Tryz.underlying388) f c g;clear f c g d k l;go_enter func80.1,Tryz.ntmps80
 go_wp2_with fail
 refine I1.o.mono ?_;rintro e w' ⟨rfl,rfl⟩
 go_wp2_with fail
 refine m.o.mono ?_;rintro e w' ⟨rfl,rfl⟩
 go_wp2_with fail
 go_ret
 exact⟨rfl,rfl⟩
def vat{cv tv:Zv}{lo B p q:Nat}(w:Zy)(d:vac lo cv tv w)(f:w.cell? (zq 0 0)=bO cv)(g:w.cell? (zq 1 0)=bO tv)(s:w.cell? (zq p 0)=bO (zo B))(x:w.cell? (zq q 0)=bO (zi 0))(y:w.frozen? (zq q 0)=bK):
  CallsD prog 79 #[zo p,zo q] (.panicking [{v:=tv,recovered:=bK}]) w fun e u' w'=>e= .returned (.tuple #[])/\u'= .panicking [{v:=tv,recovered:=bL}]/\w'=w.setCell (zq q 0) (zi 11):=by
 have G:=zl<|vaw B w d f g;obtain⟨a,b,m,n,z,C,rfl,rfl,c,k,l,h,i⟩:=d;clear h i c k l;refine callsD_of_wpS func79.1 rfl fun r o j=>?_;apply wpS_seq;apply wpS_region;simp[wpOpsS,go_sem,recoverD,j,Tryz.ntmps79,Exit.thenS];apply wpS_seq;apply wpS_region;simp[wpOpsS,go_sem,Exit.thenS];refine wpS_cond (t:=bL) (by simp[Act.eval,aW]) ?_;simp only[if_true];refine wpS_of_wp ?_
 go_wp2_with fail
 refine G.o.mono ?_;rintro e w' ⟨rfl,rfl⟩
 go_wp2_with fail
 simp[bodyPostS,aN,Tryz.results79]
end P
namespace P
open A.Tryq Go.RowKit A
variable [pn:A.Pn]
def vac.but{cv tv:Zv}{lo:Nat}{S:ZP}{w w':Zy}(h:vac lo cv tv w)(k:xb S w w')(c:∀x,S x->lo<=x):vac lo cv tv w':=by
 obtain⟨a,b,j,l,s,t,m,n,p,q,r,d,f⟩:=h;have g:∀{i:Nat} {o:Obj},w.heap[i]?=bO o->i<w.heap.size:=fun h=>(za.1 h).1;exact⟨a,b,j,l,s,t,m,n,p,q,r,(k.block _ (g d) fun e=>by have:=c _ e;omega).trans d,(k.block _ (g f) fun e=>by have:=c _ e;omega).trans f⟩
def vba{cv tv:Zv}{B lo:Nat}{r:Sr}{w:Zy}(h:Jq w B r)(G:r.sn=bN)(hop:r.op<999)(a:fV B r)(V:iA cv tv w)(S:vac lo cv tv w)(F:∀x,r.own B x->lo<=x)(E:∀i,(qu r.d.L i).length<=100000)
  (q:∀mp,Yu (Jp r.m r.mark r.cnt ((r.op+1:Nat):Int) mp) r.d.L=bN):
  CC bM 16 #[zo B] w fun e w'=>e= .returned (zi 11)/\jt B r w {r with op:=r.op+1} w':=by
 refine Open_pre (n:=11) (C:=fun w'=>jt B r w {r with op:=r.op+1} w') h G hop (fun w' t d=>⟨jt.re,fun h=>jt.gL h t d⟩) fun c p=>?_;have o:fV B {r with op:=r.op+1}:=⟨a.m,a.mark,a.cnt,by show r.op+1<1000000;omega,a.room,a.files,a.few,a.nx,fun x l=>a.own x l,fun s e=>a.bU s e⟩;have H:Nw c<|gW B c:=(Nw.alloc _ _).trans<|Nw.alloc _ _;have D:iA cv tv<|gW B c:=(V.but p.but a.own).but H fun _ x=>x.elim;have T:vac lo cv tv<|gW B c:=(S.but p.but F).but H fun _ x=>x.elim;have z:=xnr (p.at_.but H fun _ _=>id) G o D E (fun mp k L e=>by cases(q mp).symm.trans e);have y:∀{x:Nat},({r with op:=r.op+1}:Sr).own B x->x<c.heap.size:=fun l=>Sr.bX p.at_ l;refine zz9 (bZ rfl Tryz.func40 rfl) (fun args w=>func40.2 args w) z (fun e w' t d g=>⟨g.1,jt.re g.2⟩) (fun e w' t d g=>⟨g.1,jt.gL g.2 t d⟩) (fun w' g=>by cases g.1) ?_ ?_;rintro v w' ⟨mp,J,g⟩;rw[show Yu _ _=bN from q mp]at g;cases g.1;rintro ch w' ⟨mp,J,g⟩ Y K t d;rw[show Yu _ _=bN from q mp]at g;obtain⟨W,j⟩:=g;cases W;have N:xx w' c.heap.size #[zo B] 23:=((xx.new c _ _).alloc _).but j.but fun l=>by have:=y l;omega
 have I:xx w' (c.heap.size+1) #[zi 0] 30:=by
  have:=xx.new (c.alloc<|.cells #[zo B] 23) #[zi 0] 30;rw[xh]at this;exact this.but j.but fun l=>by have:=y l;omega
 obtain⟨⟨_,_,_,O⟩,⟨_,_,_,Q⟩,_⟩:=D.but j.but o.own;have M:=jt.fresh (p.trans<|(jt.nw p.at_ H).trans j) (b:=c.heap.size+1) (by have:=p.but.size;omega) (fun l=>by have:=y l;omega)<|xb.set w' (zq (c.heap.size+1) 0)<|zi 11;have U:vac lo cv tv w':=T.but j.but F;refine leaves_cons (f:=79) (args:=#[zo c.heap.size,zo<|c.heap.size+1]) (by simp) (by simp[go_sem,gD]) ?_;refine(vat (B:=B) (re w' t d) U O Q (N.cell 0 rfl) (I.cell 0 rfl)<|I.bT 0).mono ?_;rintro e Z X ⟨rfl,rfl,rfl⟩;have R:((re w' t d).setCell (zq (c.heap.size+1) 0)<|zi 11).cell? (zq (c.heap.size+1) 0)=bO (zi 11):=(I.set 0 _).cell 0 rfl;simp[Leaves,settle,aN,Tryz.results39,go_sem,K,R];exact jt.gL M t d
end P
namespace P
open A.Tryq Go.RowKit A
variable [pn:A.Pn]
attribute [local go_sem] xe zv
noncomputable def vbp:=Qa<|Qf Tryz.f12.body
noncomputable def vbo:=Qa<|Qb<|Qf Tryz.f12.body
noncomputable def y12:=Qb<|Qb<|Qf Tryz.f12.body
def vbl:Tryz.f12.body=bO (.seq vbp<|.seq vbo y12):=by kernel_rfl
def nmc12:¬Mc bM 12:=xO (by decide) (by decide) Tryz.func12
def vbf{r:Sr}{s:Jo}(I:Wy r s)(a:s.P≠[]):(r.ses1 s).base<(r.ses1 s).last:=by
 have h:=I.base0;unfold Sr.ses1;rw[aB a];show s.base<((r.place s).1:Int);unfold Sr.place;split
 rename_i e;simp only;omega
 simp only;omega
def vaq(B:Nat)(r:Sr)(w:Zy)(e:Ending)(w':Zy):Prop:=e= .returned (.bool bL)/\∃r' s',jt B r w r' w'/\r'.sn=bN/\Wy r' s'/\s'.base<s'.last/\r'.op=r.op+1/\r'.cnt=r.cnt+1
def vbd{cv tv:Zv}{B:Nat}{r:Sr}{s:Jo}{w:Zy}(C:Zl)(h:Jq w B r)(bb:r.sn=bN)(I:Wy r s)(hop:r.op<999)(y:r.cnt<=39)(V:iA cv tv w)(l:∀x,r.own B x->2<x):
  CC bM 12 #[zo B,zs C] w (vaq B r w):=by
 have X:kT<|nJ bM funcs Tryz.f12<|vaq B r w:=AO fun e w' t d=>⟨fun⟨N,n,s',O,Q⟩=>⟨N,n,s',jt.re O,Q⟩,fun⟨N,n,s',O,Q⟩=>⟨N,n,s',jt.gL O t d,Q⟩⟩;refine CC.fA bQ nmc12 (bZ rfl Tryz.func12 rfl).1 Tryz.func12 vbl ?_;rw[show Tryz.f12.ntmps=33 from rfl];generalize hPX:nJ bM funcs Tryz.f12 (vaq B r w)=PX at X;have F:=zl hPX;have H0:=zl h;have bc:=V.pos;have HG:=zl V;have G:=zl l;clear hPX h V l;simp only[jg,zh,jn,Nat.reduceAdd,Nat.reduceSub,qw,qx,Z7,Zi,jk,jc];refine gG nmc12 X fun w1 bd T p Y=>?_;have H:=zl<|ji T;clear Y
 conv=>arg 2;whnf
 go_wp2_with fail
 refine p.o _ _ ?_;clear p;have k:=Ny (cv:=cv) (tv:=tv) (H0.o.nw H.o) bb I hop (HG.o.but (S:=fun _=>False) H.o fun _ x=>x.elim) G.o;refine Xn.seq bQ nmc12 trivial ?_
 conv=>arg 3;whnf
 refine Xn.dB bQ nmc12 ?_;refine mZ (val:=zo B) nmc12 ⟨rfl,rfl⟩ ?_;refine Jc.call (f:=16) (args:=#[zo B]) bQ nmc12 rfl rfl (fun v=>by show(bG _ _).run prog _=_;simp[bG,go_sem,resolve,Act.put]) (bZ rfl Tryz.func16 rfl) k ?_ ?_;rotate_left;rintro ch wx ⟨Z,_⟩;cases Z;rintro v2 w2 ⟨Z,mp,kk,L,SS,R,b⟩;cases Z;refine mZ (val:=zi 0) nmc12 ⟨rfl,rfl⟩ ?_;refine Jc.nil bQ nmc12 ?_;refine(show Xn bM 12 _ PX _ w2 from ?_);simp only[Act.put,xv,Zz,Z9];obtain⟨g,i,T2,I2,Q2,D,bf,ba⟩:∃g i,Hid (jt B r w g w2)/\Hid (Wy g i)/\Hid (g.sn=bO i)/\i.P=[]/\g.cnt=r.cnt/\g.op=r.op+1:=
  ⟨_,_,(jt.nw H0.o H.o).trans b,R.inv SS hop,ZZ R,rfl,R.cnt,rfl⟩
 have OW:∀{n:Sr} {w':Zy},jt B r w n w'->∀x,n.own B x->2<x:=fun t x hx=>(t.own x hx).elim (G.o x) fun e=>by omega
 clear R b k;refine mY nmc12 X fun w3 be U W=>?_;have J:Hid<|jt B r w g w3:=T2.o.trans<|jt.nw T2.o.at_<|ji U;clear T2
 conv=>arg 2;whnf
 go_wp2_with fail
 refine(Dr C 5 (by omega) 5 rfl _).mono ?_;rintro e w4 ⟨rfl,q⟩;have K:Hid<|jt B r w g w4:=J.o.trans<|jt.nw J.o.at_<|xb.of_below q;clear q J
 go_wp2_with fail
 refine(Dv B g [107] (wM C 5) _ K.o.at_ fun s e=>by rw[Q2.o]at e;cases e;rw[D];simp).mono ?_;rintro e w5 ⟨a,r2,rfl,b,j⟩;have o:=zl<|K.o.trans b;unfold Sr.awaits at j;rw[Q2.o]at j;simp only[Ve,iW,xoo,D]at j;obtain⟨rfl,pv,rfl⟩:=j;have I5:Hid<|Wy {g with sn:=bO<|i.more pv<|.put [107]<|wM C 5}<|i.more pv<|.put [107]<|wM C 5:=I2.o.swap rfl rfl rfl rfl rfl rfl (fun c y=>by
  have y:c∈i.P++[_]:=y;rw[D]at y;rw[jp.1 y];exact⟨by simp,by simp,by rw[xoo];omega⟩)<|by show(i.P++[_]).length<=20;rw[D];simp
 obtain⟨E,S⟩:=I5.o.sync rfl (by show g.cnt<=39;omega);have HL:=zl (vbf I5.o<|by show i.P++[_]≠[];simp);have m:=zl S;clear b K S
 go_wp2_with fail
 refine(vA (cv:=cv) (tv:=tv) B _ _ _ o.o.at_ rfl (fV.of I5.o (.inl rfl)<|OW o.o) (HG.o.but o.o.but G.o) I5.o.P<|by rw[m.o.run];simp).mono ?_;rintro e w6 ⟨v,bg,z,rfl,b⟩;rw[m.o.run]at z;cases z;have M:=zl<|o.o.trans b;clear b o
 go_wp2_with fail
 refine(x_ B E _ M.o.at_).mono ?_;rintro e w7 ⟨rfl,b⟩;rw[show(if E.sn.isSome then(0:Int)else 5)=0 by rw[m.o.sn];rfl];have T7:=zl<|M.o.trans b;clear b M
 go_wp2_with fail
 refine W.o .ret _ _ ?_;rw[<-F.o];refine⟨rfl,.bool bL,fun t d=>⟨t,d, ?_⟩,rfl,_,_,T7.o,rfl,m.o.inv.tV bN,HL.o, ?_, ?_⟩
 ·show(aN Tryz.f12 _).run prog _=_
  simp[aN,Tryz.results12,go_sem]
 show E.op=_;rw[m.o.keep.op];exact ba;show E.cnt=_;rw[m.o.cnt,aB<|by show¬i.P++[_]=[];simp];show g.cnt+1=_;omega
noncomputable def x3a:=Qa<|Qf Tryz.f3.body
noncomputable def r3a:=Qa<|Qb<|Qf Tryz.f3.body
noncomputable def x3b:=Qa<|Qb<|Qb<|Qf Tryz.f3.body
noncomputable def x3c:=Qa<|Qn 3<|Qf Tryz.f3.body
noncomputable def r3b:=Qa<|Qn 4<|Qf Tryz.f3.body
noncomputable def x3d:=Qa<|Qn 5<|Qf Tryz.f3.body
noncomputable def r3c:=Qa<|Qn 6<|Qf Tryz.f3.body
noncomputable def x3e:=Qa<|Qn 7<|Qf Tryz.f3.body
noncomputable def x3f:=Qa<|Qn 8<|Qf Tryz.f3.body
noncomputable def x3g:=Qa<|Qn 9<|Qf Tryz.f3.body
noncomputable def x3h:=Qa<|Qn 10<|Qf Tryz.f3.body
noncomputable def x3i:=Qa<|Qn 11<|Qf Tryz.f3.body
noncomputable def x3j:=Qa<|Qn 12<|Qf Tryz.f3.body
noncomputable def x3k:=Qa<|Qn 13<|Qf Tryz.f3.body
noncomputable def x3l:=Qa<|Qn 14<|Qf Tryz.f3.body
noncomputable def x3m:=Qa<|Qn 15<|Qf Tryz.f3.body
noncomputable def r3d:=Qa<|Qn 16<|Qf Tryz.f3.body
noncomputable def y3:=Qn 17<|Qf Tryz.f3.body
def FQ:Tryz.f3.body=bO (.seq x3a<|.seq r3a<|.seq x3b<|.seq x3c<|.seq r3b<|.seq x3d<|.seq r3c<|.seq x3e<|.seq x3f<|.seq x3g<|.seq x3h<|.seq x3i<|.seq x3j<|.seq x3k<|.seq x3l<|.seq x3m<|.seq r3d y3):=by kernel_rfl
noncomputable def c4:=Qf Tryz.f3.body
theorem xV:Tryz.f3.body=bO c4:=by kernel_rfl
theorem nmc4:¬Mc bM 3:=xO (by decide) (by decide) Tryz.func3
def vN:gZ:=⟨.slice bN 0 0,.slice bN 0 0,[],[],0,0,0⟩
def Mz(w:Zy):W6 (w.alloc<|.cells vN.cells 28) w.heap.size vN:=⟨xx.new _ _ _,⟨bN,0,0,rfl,ze _,fun h=>absurd rfl h⟩,⟨bN,0,0,rfl,ze _,fun h=>absurd rfl h⟩⟩
def Bn:fD []=[]:=xa<|KZ []
def MF(w:Zy)(e:Ending)(w':Zy):Prop:=e= .returned (.bool bL)/\Nw w w'
def m_{w w':Zy}{e:Ending}{t:Nat->Question->Nat}{d:Nat}:MF w e (re w' t d)↔MF w e w':=⟨fun h=>⟨h.1,xb.re h.2⟩,fun h=>⟨h.1,Nw.gL h.2 t d⟩⟩
theorem vap{cv tv:Zv}(ms:Zl)(sg:Int)(d5:-9223372036854775808<=sg/\sg<=9223372036854775807)(v:Zv)(Dd:List Ac)(vv:Zl)(nn:Int)(c2:-9223372036854775808<=nn/\nn<=9223372036854775807){w:Zy}(hG:iA cv tv w)(h2:vac w.heap.size cv tv w)(cw:AL w.heap.size w v Dd):
  Xn bM 3 c4 (nJ bM funcs Tryz.f3<|MF w) ⟨#[zs ms,zi sg,v,zs vv,zi nn]++aW (Tryz.f3.ntmps-#[zs ms,zi sg,v,zs vv,zi nn].size) undef,[]⟩ w:=by
 have hQ:kT<|nJ bM funcs Tryz.f3<|MF w:=AO fun e w' t d=>m_;rw[jf<|xV.symm.trans FQ];rw[show Tryz.f3.ntmps=119 from rfl];generalize hPX:nJ bM funcs Tryz.f3 (MF w)=PX at hQ;have G:=zl hQ;have dk:=zl hPX;have HG:=zl hG;have df:=zl cw;have H2:=zl h2;have c7:=hG.pos;clear hQ hPX hG cw h2;simp only[jg,zh,jn,Nat.reduceAdd,Nat.reduceSub,qw,qx,Z7,Zi,jk,jc];refine gG nmc4 G.o fun w1 ew bb bl ct=>?_;have N1:=zl<|ji bb;clear ct
 conv=>arg 2;whnf
 go_wp2_with fail
 refine bl.o _ _ ?_;clear bl;have c9:=Ln (cv:=cv) (tv:=tv) ms sg d5 (w:=w1)<|HG.o.but (S:=fun _=>False) N1.o fun _ x=>x.elim;refine Xn.seq bQ nmc4 trivial ?_
 conv=>arg 3;whnf
 refine Xn.dB bQ nmc4 ?_;refine mZ (val:=zs ms) nmc4 ⟨rfl,rfl⟩ ?_;refine mZ (val:=zi sg) nmc4 ⟨rfl,rfl⟩ ?_;refine Jc.call (f:=9) (args:=#[zs ms,zi sg,zi 999]) bQ nmc4 rfl rfl (fun v=>by show(bG _ _).run prog _=_;simp[bG,go_sem,resolve,Act.put]) (bZ rfl Tryz.func9 rfl) c9 ?_ ?_;rotate_left;rintro ch wx ⟨B,r0,s0,F,_⟩;cases F;rintro v2 w2 ⟨B,r0,s0,F,hS,c1⟩;cases F;refine mZ (val:=zo B) nmc4 ⟨rfl,rfl⟩ ?_;refine Jc.nil bQ nmc4 ?_;refine(show Xn bM 3 _ PX _ w2 from ?_);simp only[Act.put,xv,Zz,Z9];have S2:=zl hS;have N2:Hid<|Nw w w2:=N1.o.trans c1;have HZ:=zl<|Ug bb;clear hS c1 c9;refine gG nmc4 G.o fun w3 ex ce bm cu=>?_;have N3:=zl<|ji ce;clear cu
 conv=>arg 2;whnf
 go_wp2_with fail
 refine bm.o _ _ ?_;clear bm;refine gG nmc4 G.o fun w4 e0 dz U d1=>?_;have N4:Hid<|Nw w2 w4:=N3.o.trans<|ji dz;clear d1;have P4:Hid<|Pl cv tv w.heap.size B w4.heap.size r0 s0 vN<|w4.alloc<|.cells vN.cells 28:=by
  have J:=S2.o;have q:Nw w<|w4.alloc<|.cells vN.cells 28:=(N2.o.trans N4.o).trans<|Nw.alloc _ _;have c3:s0.now=[]:=by unfold Jo.now;rw[J.L,J.P];rfl
  refine⟨J.st.nw<|N4.o.trans<|Nw.alloc _ _,Mz w4,J.sn,J.inv,⟨by rw[c3,Bn];rfl,by rw[J.L,Bn];rfl,by rw[J.P];rfl,by rw[J.ep];rfl,by rw[J.cnt];rfl⟩,fun x E=>by have:=J.own x E;have:=HZ.o;omega,c7,(N2.o.trans N4.o).size,HG.o.but (S:=fun _=>False) q fun _ x=>x.elim⟩
 have D4:Hid<|Pd cv tv w.heap.size B w4.heap.size v Dd (w4.alloc<|.cells vN.cells 28) 0<|w4.alloc<|.cells vN.cells 28:=⟨⟨r0,s0,vN,P4.o,by rw[S2.o.cnt];omega,by rw[S2.o.op];omega,by rw[S2.o.bP];exact Int.le_refl _⟩,xb.refl _ _,Vj _,Vj _,df.o.but<|((N2.o.trans N4.o).trans<|Nw.alloc _ _).mono fun _ x=>x.elim⟩;have N5:Hid<|Nw w<|w4.alloc<|.cells vN.cells 28:=(N2.o.trans N4.o).trans<|Nw.alloc _ _;have H:vN.cells=#[.slice bN 0 0,.slice bN 0 0,zi 0,zi 0,zi 0]:=rfl;rw[H]at P4 D4 N5;clear H
 conv=>arg 2;whnf
 go_wp2_with fail
 refine U.o _ _ ?_;clear U;generalize w4.alloc (.cells #[.slice bN 0 0,.slice bN 0 0,zi 0,zi 0,zi 0] 28)=w5 at*;generalize w4.heap.size=b at*;have c6:=LL D4.o;refine Xn.seq bQ nmc4 trivial ?_
 conv=>arg 3;whnf
 refine Xn.dB bQ nmc4 ?_;refine mZ (val:=zo b) nmc4 ⟨rfl,rfl⟩ ?_;refine mZ (val:=zo B) nmc4 ⟨rfl,rfl⟩ ?_;refine mZ (val:=v) nmc4 ⟨rfl,rfl⟩ ?_;refine Jc.call (f:=10) (args:=#[zo b,zo B,v]) bQ nmc4 rfl rfl (fun v=>by show(bG _ _).run prog _=_;simp[bG,go_sem,resolve,Act.put]) (bZ rfl Tryz.func10 rfl) c6 ?_ ?_;rotate_left;rintro ch wx ⟨F,_⟩;cases F;rintro v6 w6 ⟨F,D,r,s,k,hp,d3,d4,d6⟩;cases F;refine mZ (val:= .bool bL) nmc4 ⟨rfl,rfl⟩ ?_;refine Jc.nil bQ nmc4 ?_;refine(show Xn bM 3 _ PX _ w6 from ?_);simp only[Act.put,xv,Zz,Z9];have P6:=zl hp;have N6:Hid<|Nw w w6:=by
  have n5:=N5.o;exact⟨D.os.trans n5.os,D.output.trans n5.output,xz n5.size D.size,fun i hi _=>(D.block i (zn hi n5.size)<|by show¬w.heap.size<=i;omega).trans<|n5.block i hi id⟩
 clear hp D c6;refine gG nmc4 G.o fun w7 e1 cd ci d2=>?_;have P7:=zl<|P6.o.nw<|ji cd;have N7:Hid<|Nw w w7:=N6.o.trans<|ji cd;clear d2
 conv=>arg 2;whnf
 go_wp2_with fail
 refine(x_ B r _ P7.o.st).mono ?_;rintro e w8 ⟨rfl,bs⟩;rw[show(if r.sn.isSome then(0:Int)else 5)=0 by rw[P7.o.sn];rfl];have T8:=zl bs.at_;have N8:=zl<|jt.zP N7.o bs P7.o.own;have O8:Hid<|∀x,r.shut.own B x->w.heap.size<=x:=fun x E=>P7.o.own x<|Wy.fP E;have I8:=zl P7.o.inv;clear bs
 go_wp2_with fail
 refine ci.o _ _ ?_;clear ci;refine Xn.seq bQ nmc4 trivial ?_;have c0:=vbd (cv:=cv) (tv:=tv) vv T8.o rfl (I8.o.tV bN) (by show r.op<999;omega) (by show r.cnt<=39;omega) (HG.o.but (S:=fun _=>False) N8.o fun _ x=>x.elim) fun x E=>by have:=O8.o x E;omega
 conv=>arg 3;whnf
 refine Xn.dB bQ nmc4 ?_;refine mZ (val:=zo B) nmc4 ⟨rfl,rfl⟩ ?_;refine mZ (val:=zs vv) nmc4 ⟨rfl,rfl⟩ ?_;refine Jc.call (f:=12) (args:=#[zo B,zs vv]) bQ nmc4 rfl rfl (fun v=>by show(bG _ _).run prog _=_;simp[bG,go_sem,resolve,Act.put]) (bZ rfl Tryz.func12 rfl) c0 ?_ ?_;rotate_left;rintro ch wx ⟨F,_⟩;cases F;rintro v9 w9 ⟨F,a,s',p,c8,I9,cx,bo,bn⟩;cases F;refine mZ (val:= .bool bL) nmc4 ⟨rfl,rfl⟩ ?_;refine Jc.nil bQ nmc4 ?_;refine(show Xn bM 3 _ PX _ w9 from ?_);simp only[Act.put,xv,Zz,Z9];have c5:a.op<999:=by have:a.op=r.op+1:=bo;omega
 have cy:a.cnt<=38:=by have:a.cnt=r.cnt+1:=bn;omega
 have T9:=zl p.at_;have N9:=zl<|jt.zP N8.o p O8.o;have O9:Hid<|∀x,a.own B x->w.heap.size<=x:=fun x E=>(p.own x E).elim (O8.o x) fun e=>by have:=N8.o.size;omega
 have I:=zl I9;obtain⟨N,d0,cf,cg,U⟩:=I9.clipped cx;have bx:=zl cf;have di:=zl cg;have dj:=zl U;have HS:=zl c8;clear c0 p bo bn cf cg U T8 N8 O8 I8 I9 c8 d4 d3 d6 P6 P7 N6 N7 cx;refine gG nmc4 G.o fun ea ej b4 bc ck=>?_;have dn:Hid<|Nw w9 ea:=ji b4;clear ck
 conv=>arg 2;whnf
 go_wp2_with fail
 refine bc.o _ _ ?_;clear bc;refine gG nmc4 G.o fun eb ek b5 bd cl=>?_;have b1:Hid<|Nw w9 eb:=dn.o.trans<|ji b5;clear cl
 conv=>arg 2;whnf
 go_wp2_with fail
 refine(kU B a _ (T9.o.nw b1.o) I.o.U9).mono ?_;rintro e g ⟨ov,rfl,ho,q⟩;rw[pR,<-jN]at ho;have b2:Hid<|Nw w9 g:=b1.o.trans q;obtain⟨op,og,oc,rfl,hp,X⟩:=rF ho;have bw:Hid<|(bR a.d.L).length<=40:=by show _<=_;rw[jN,yZ];have:=I.o.few;omega
 have bz:=zl hp;have HC:Hid<|∀W,Nw g W->∀i (h:i<(bR a.d.L).length),W.cell? (zq og<|i*2)=bO (zi (bR a.d.L)[i].1)/\W.cell? (zq og<|i*2+1)=bO (.string<|st (bR a.d.L)[i].2):=fun W n i h=>⟨n.cell id (X i h).1,n.cell id (X i h).2⟩;have HM:Hid<|∀i (h:i<(bR a.d.L).length),i64 (bR a.d.L)[i].1/\(bR a.d.L)[i].2=qu a.d.L (bR a.d.L)[i].1/\(bR a.d.L)[i].2≠[]:=fun i h=>by
  have hm:(bR a.d.L)[i]∈bR a.d.L:=Zn h;obtain⟨n,q,e⟩:=qp.1 hm;rw[<-e];have h1:=I.o.gd.nums.1 q;have h2:=I.o.le.2 n h1;exact⟨by unfold i64;omega,rfl,h1⟩
 obtain⟨dd,hi,da,db,dc⟩:=info110;clear ho q hp X;have d9:¬(40:Int)<((bR a.d.L).length:Nat):=by have:=bw.o;omega
 go_wp2_with fail
 refine bd.o _ _ ?_;clear bd;refine gG nmc4 G.o fun ec el b6 be cm=>?_;have dp:Hid<|Nw g ec:=ji b6;clear cm
 conv=>arg 2;whnf
 go_wp2_with fail
 refine be.o _ _ ?_;clear be;refine gG nmc4 G.o fun ed em b7 bf cn=>?_;have dq:Hid<|Nw g ed:=dp.o.trans<|ji b7;clear cn
 conv=>arg 2;whnf
 go_wp2_with fail
 refine bf.o _ _ ?_;clear bf d9;refine gG nmc4 G.o fun ee eo b8 bg co=>?_;have dr:Hid<|Nw g ee:=dq.o.trans<|ji b8;clear co
 conv=>arg 2;whnf
 go_wp2_with fail
 go_loopw [17,18] (fun t i wr=>∃(k:Nat) (T:Int),k<=(bR a.d.L).length/\i=zi k/\t=zi T/\vae (bR a.d.L) k T/\Nw g wr) (fun _ i _=>((bR a.d.L).length-intOf i).toNat)
 case atStart=>exact⟨0,-1,Vj _,rfl,rfl,.inl ⟨rfl,fun i _ h=>by omega⟩,dr.o⟩
 case round=>
  obtain⟨k,T,hk,rfl,rfl,hL,q⟩:=hrel;have HN:=zl q;have HL:=zl hL;clear q hL;by_cases l:k<(bR a.d.L).length
  ·have i1:(k:Int)<((bR a.d.L).length:Nat):=by omega
   have i0:(0:Int)<=(k:Int):=by omega
   obtain rfl:=(bz.o fun e=>by rw[e]at l;cases l).1;obtain⟨a0,a1⟩:=HC.o _ HN.o k l;obtain⟨q1,q2,q3⟩:=HM.o k l;obtain⟨n,q⟩:∃n,n=(bR a.d.L)[k].1:=⟨_,rfl⟩;have Hn:=zl q;rw[<-q]at a0;clear q a1 q2 q3 q1;by_cases s1:1<=n
   ·by_cases s2:n<=9999
    ·go_wp2_with fail
     exact⟨⟨k+1,k,by omega,by go_num,rfl,vae.yes l<|by rw[<-Hn.o];exact⟨s1,s2⟩,HN.o⟩,by simp[intOf];omega⟩
    go_wp2_with fail
    exact⟨⟨k+1,T,by omega,by go_num,rfl,HL.o.no l<|by rw[<-Hn.o];omega,HN.o⟩,by simp[intOf];omega⟩
   go_wp2_with fail
   exact⟨⟨k+1,T,by omega,by go_num,rfl,HL.o.no l<|by rw[<-Hn.o];omega,HN.o⟩,by simp[intOf];omega⟩
  have i1:¬(k:Int)<((bR a.d.L).length:Nat):=by omega
  obtain rfl:k=(bR a.d.L).length:=by omega
  obtain⟨e2,hT⟩:=I.o.vbm d0 bx.o di.o HL.o;have HT:=zl hT;clear hT
  go_wp2_with fail
  refine bg.o _ _ ?_;clear bg;refine gG nmc4 G.o fun w16 er b9 bh cp=>?_;have O:Hid<|Nw g w16:=HN.o.trans<|ji b9;have i2:¬T<0:=by omega
  clear cp
  conv=>arg 2;whnf
  go_wp2_with fail
  refine bh.o _ _ ?_;clear bh;refine gG nmc4 G.o fun ef es ca bi cq=>?_;have ds:Hid<|Nw g ef:=O.o.trans<|ji ca;clear cq
  conv=>arg 2;whnf
  go_wp2_with fail
  refine bi.o _ _ ?_;clear bi;refine gG nmc4 G.o fun eg et cb bj cr=>?_;have dt:Hid<|Nw g eg:=ds.o.trans<|ji cb;clear cr
  conv=>arg 2;whnf
  go_wp2_with fail
  obtain⟨j,bt⟩:∃j,pkN nn (qu a.d.L N).length=j:=⟨_,rfl⟩;have dg:=zl bt;have HJ:Hid<|j<(qu a.d.L N).length:=by show _<_;rw[<-bt];exact vbj nn<|qb.2 bx.o
  clear bt
  go_loopw [19,20] (fun s i wr=>∃k:Nat,k<=(bR a.d.L).length/\i=zi k/\wr.ownsRow g.heap.size 36 2 s (vaa N j<|(bR a.d.L).take k).length (jV<|vaa N j<|(bR a.d.L).take k)/\Nw g wr) (fun _ i _=>((bR a.d.L).length-intOf i).toNat)
  case atStart=>exact⟨0,Vj _,rfl,Vl _ _ _ _,dt.o⟩
  case round=>
   obtain⟨k,hk,rfl,Z,q⟩:=hrel;obtain⟨sa,sc,rfl,e3⟩:=Jh Z;have HW:=zl q;have HO:=zl Z;clear q Z;by_cases l:k<(bR a.d.L).length
   focus
    have i1:(k:Int)<((bR a.d.L).length:Nat):=by omega
    have i0:(0:Int)<=(k:Int):=by omega
    obtain rfl:=(bz.o fun e=>by rw[e]at l;cases l).1;obtain⟨a0,a1⟩:=HC.o _ HW.o k l;obtain⟨q1,q2,q3⟩:=HM.o k l;have HE:=zl<|HT.o k l;have bq:=zl<|vax N j (bR a.d.L) k l;have b3:(bR a.d.L)[k].2.length<=60000:=by rw[q2];exact I.o.jD _
    have dl:=zl q2;obtain⟨n,q⟩:∃n,(bR a.d.L)[k].1=n:=⟨_,rfl⟩;obtain⟨x,E⟩:∃x,(bR a.d.L)[k].2=x:=⟨_,rfl⟩;rw[q]at a0;rw[E]at a1 q3 b3;have Hn:=zl q;have Hx:=zl E;have b0:=zl q3;clear q E q1 q2 q3;have i3:(0:Int)<(x.length:Nat):=by have:=qb.2 b0.o;omega
    have NS:=HW.o.size;have ey:(vaa N j<|(bR a.d.L).take k).length<=40:=by have h1:=vao N j<|(bR a.d.L).take k;have h2:=bw.o;rw[xt]at h1;omega
    by_cases e:T=(k:Int)
    ·subst e
     have bu:x=qu a.d.L N:=by rw[<-Hx.o,dl.o,HE.o.1 rfl]
     have PK:∀w,bE prog 14 #[zi nn,zi (x.length:Nat)] w fun en w'=>en= .returned (zi (j:Nat))/\w'=w:=fun w=>by have:=vbe nn x.length (by omega) (by omega) c2.1 c2.2 w;rwa[show pkN nn x.length=j by rw[bu];exact dg.o]at this
     have jx:j<x.length:=by have:=HJ.o;rwa[<-bu]at this
     have j1:(j:Int)<=(x.length:Nat):=by omega
     have j0:(0:Int)<=(j:Int):=by omega
     have cz:(st x).extract 0 j=st (x.take j):=xsn x j;have d8:(x.take j).length=j:=by rw[xt];omega
     have M:Hid<|vab N j (bR a.d.L)[k]=(n,x.take j):=by show _=_;unfold vab;rw[aA<|HE.o.1 rfl,Hn.o,Hx.o]
     obtain⟨y,hy⟩:∃y,x.take j=y:=⟨_,rfl⟩;rw[hy]at cz d8 M;clear bu hy;have YA:Hid<|xx (wr.alloc<|.cells #[zi n,zs x] 36) wr.heap.size #[zi n,zs x] 36:=xx.new _ _ _;have MA:Hid<|Nw wr<|wr.alloc<|.cells #[zi n,zs x] 36:=xb.alloc _;have SA:(wr.alloc<|.cells #[zi n,zs x] 36).heap.size=wr.heap.size+1:=by simp
     go_wp2_with fail
     generalize wr.alloc (.cells #[zi n,zs x] 36)=wa at*;have S0:wa.cell? (zq wr.heap.size 1)=bO (zs x):=YA.o.cell 1 rfl;refine A.gU (by kernel_rfl) rfl (by kernel_rfl) rfl ?_;simp only[A.iG]
     repeat (go_big_quiet_step ((go_at_call 14;refine Calls.quiet_of_same<|PK _)))
     refine wpQuiet_nil ?_;intro w1 d7;obtain⟨nq,rfl⟩:=d7;have MZ:Hid<|Nw wr<|(wa.drewN nq).setCell (zq wr.heap.size 1)<|zs y:=xb.fresh (MA.o.drewN' (n:=nq)) (ze _)<|xb.set (wa.drewN nq) (zq wr.heap.size 1)<|zs y;have YZ:Hid<|xx ((wa.drewN nq).setCell (zq wr.heap.size 1)<|zs y) wr.heap.size #[zi n,zs y] 36:=xx.set (w:=wa.drewN nq) YA.o 1<|zs y;have f1:=YA.o.bT 1;have f0:wa.cell? (zq wr.heap.size 0)=bO (zi n):=YA.o.cell 0 rfl;have NZ:Hid<|Nw g<|(wa.drewN nq).setCell (zq wr.heap.size 1)<|zs y:=HW.o.trans MZ.o;have OZ:=zl<|yU HO.o MZ.o fun _ _=>id;clear YZ;by_cases K:y=[]
     ·have i4:¬(0:Int)<(y.length:Nat):=by rw[K];simp
      have Q:Hid<|((wa.drewN nq).setCell (zq wr.heap.size 1)<|zs y).ownsRow g.heap.size 36 2 (.slice sa (vaa N j<|(bR a.d.L).take k).length sc) (vaa N j<|(bR a.d.L).take<|k+1).length<|jV<|vaa N j<|(bR a.d.L).take<|k+1:=by
       show World.ownsRow _ _ _ _ _ _ _;rw[bq.o,M.o,aB fun h=>h K,Xq];exact OZ.o
      clear K
      go_wp2_with fail
      exact⟨⟨k+1,by omega,by go_num,Q.o,NZ.o⟩,by simp[intOf];omega⟩
     have i4:(0:Int)<(y.length:Nat):=by have:=qb.2 K;omega
     have dm:=zl K;clear K SA;have ez:=MA.o.size
     go_wp2_with (refine wpList_append_lies _ rfl _ _ 33 rfl g.heap.size 36 dd (.agg #[zi 0,.string ⟨#[]⟩]) 2 24 under52 hi da db dc rfl (by decide) (.slice sa (vaa N j<|(bR a.d.L).take k).length sc) (vaa N j<|(bR a.d.L).take k).length (jV<|vaa N j<|(bR a.d.L).take k) rfl ?own (zq wa.heap.size 0) 1 1 [zi n,zs y] rfl rfl ?nw ?o1 (by decide) ?m1 ?m2 ?m3 (wa.heap.size+1) ?m4 ?_)
     case own=>exact OZ.o.alloc _
     case m1=>unfold maxLen;omega
     case m2=>omega
     case m3=>simp;omega
     try case m4=>simp
     case o1=>intro z hz;simp at hz;rcases hz with rfl|rfl<;>rfl
     case nw=>
      intro i z hz;cases i with
      |zero=>simp at hz;subst hz;simp[go_sem,Addr.add]
      |succ i=>cases i with
       |zero=>simp at hz;subst hz;simp[go_sem,Addr.add]
       |succ i=>simp at hz
     intro g3 R w16 o C V Y;have O:Hid<|Nw g w16:=(NZ.o.trans<|xb.alloc _).dH<|(zr _ _).grown C (by simp;omega)<|Vs OZ.o;have Q:Hid<|w16.ownsRow g.heap.size 36 2 (.slice (bO ⟨g3,0,bN⟩) ((vaa N j<|(bR a.d.L).take k).length+1) R) (vaa N j<|(bR a.d.L).take<|k+1).length<|jV<|vaa N j<|(bR a.d.L).take<|k+1:=by
      show World.ownsRow _ _ _ _ _ _ _;rw[bq.o,M.o,aA dm.o];simpa[jV]using o
     clear o C V Y
     go_wp2_with fail
     exact⟨⟨k+1,by omega,by go_num,Q.o,O.o⟩,by simp[intOf];omega⟩
    have e':¬(k:Int)=T:=fun h=>e h.symm;have M:Hid<|vab N j (bR a.d.L)[k]=(n,x):=by show _=_;unfold vab;rw[aB fun h=>e'<|HE.o.2 h];exact Prod.ext Hn.o Hx.o
    have OA:=zl<|HO.o.alloc<|.cells #[zi n,zs x] 36;have NA:Hid<|Nw g<|wr.alloc<|.cells #[zi n,zs x] 36:=HW.o.trans<|xb.alloc _;clear e
    go_wp2_with (refine wpList_append_lies _ rfl _ _ 33 rfl g.heap.size 36 dd (.agg #[zi 0,.string ⟨#[]⟩]) 2 24 under52 hi da db dc rfl (by decide) (.slice sa (vaa N j<|(bR a.d.L).take k).length sc) (vaa N j<|(bR a.d.L).take k).length (jV<|vaa N j<|(bR a.d.L).take k) rfl ?own (zq (wr.heap.size+1) 0) 1 1 [zi n,zs x] rfl rfl ?nw ?o1 (by decide) ?m1 ?m2 ?m3 (wr.heap.size+1+1) ?m4 ?_)
    case own=>exact OA.o.alloc _
    case o1=>exact⟨rfl,rfl⟩
    case m1=>unfold maxLen;omega
    case m2=>omega
    case m3=>omega
    intro g3 R w16 o C V Y;have O:Hid<|Nw g w16:=(NA.o.trans<|xb.alloc _).dH<|(zr _ _).grown C (by simp;omega)<|Vs OA.o;have Q:Hid<|w16.ownsRow g.heap.size 36 2 (.slice (bO ⟨g3,0,bN⟩) ((vaa N j<|(bR a.d.L).take k).length+1) R) (vaa N j<|(bR a.d.L).take<|k+1).length<|jV<|vaa N j<|(bR a.d.L).take<|k+1:=by
     show World.ownsRow _ _ _ _ _ _ _;rw[bq.o,M.o,aA b0.o];simpa[jV]using o
    clear o C V Y
    go_wp2_with fail
    exact⟨⟨k+1,by omega,by go_num,Q.o,O.o⟩,by simp[intOf];omega⟩
   have i1:¬(k:Int)<((bR a.d.L).length:Nat):=by omega
   obtain rfl:k=(bR a.d.L).length:=by omega
   rw[Yw]at HO;obtain⟨dy,hG,⟨f1,f2,f3⟩,ab,rm,J,h1,hs⟩:=I.o.cut cy N j;have dh:Hid<|∀op mp,Yu (Jp a.m a.mark a.cnt op mp) (fG []<|vaa N j<|bR a.d.L)=bN:=dj.o j _ HJ.o hG;have F3:=zl f3;have F1:=zl f1;have CL:=fun w' (nw:Nw wr w')=>tT B a (.slice sa (vaa N j<|bR a.d.L).length sc) (vaa N j<|bR a.d.L) ab rm J h1 (by rw[I.o.room];omega) hs dy w' (T9.o.nw<|b2.o.trans<|HW.o.trans nw) HS.o<|jP (B:=g.heap.size)<|yU HO.o nw fun _ _=>id;have bv:=zl CL;clear J h1 hs hG f1 f3 CL;rw[Yw]
   go_wp2_with fail
   refine bj.o _ _ ?_;clear bj;refine gG nmc4 G.o fun de eu ba bk cs=>?_;have CL:=zl<|bv.o de<|ji ba;have du:Hid<|Nw w de:=N9.o.trans<|b2.o.trans<|HW.o.trans<|ji ba;clear cs bv
   conv=>arg 2;whnf
   go_wp2_with fail
   refine CL.o.mono ?_;rintro e e5 ⟨rfl,p⟩;have dx:=zl p.at_;have br:=zl<|jt.zP du.o p O9.o;clear p CL
   go_wp2_with fail
   refine bk.o _ _ ?_;clear bk;have bp:=vba (cv:=cv) (tv:=tv) (lo:=w.heap.size) dx.o HS.o c5 ⟨I.o.m,I.o.mark,by have:=I.o.cnt;show a.cnt<_;omega,by show a.op<_;omega,by have:=I.o.room;show 0<=a.d.room/\a.d.room<=_;omega,F1.o,by show(fG []<|vaa N j<|bR a.d.L).length<_;omega,fun c e=>(by have e:a.d.nx=bO c:=e;rw[I.o.nx]at e;cases e),fun x E=>(by have:=O9.o x E;omega),fun s' e=>(by have e:a.sn=bO s':=e;rw[HS.o]at e;cases e)⟩ (HG.o.but (S:=fun _=>False) br.o fun _ x=>x.elim) (H2.o.but (S:=fun _=>False) br.o fun _ x=>x.elim) (fun x E=>O9.o x E) F3.o fun mp=>dh.o _ mp;refine Xn.seq bQ nmc4 trivial ?_
   conv=>arg 3;whnf
   refine Xn.dB bQ nmc4 ?_;refine mZ (val:=zo B) nmc4 ⟨rfl,rfl⟩ ?_;refine Jc.call (f:=16) (args:=#[zo B]) bQ nmc4 rfl rfl (fun v=>by show(bG _ _).run prog _=_;simp[bG,go_sem,resolve,Act.put]) (bZ rfl Tryz.func16 rfl) bp ?_ ?_;rotate_left;rintro ch wx ⟨F,_⟩;cases F;rintro e4 eh ⟨F,p⟩;cases F;refine mZ (val:=zi 11) nmc4 ⟨rfl,rfl⟩ ?_;refine Jc.nil bQ nmc4 ?_;refine(show Xn bM 3 _ PX _ eh from ?_);simp only[Act.put,xv,Zz,Z9];have dv:=zl<|jt.zP br.o p fun x E=>O9.o x E;clear p bp;refine mY nmc4 G.o fun ei ev cc cj=>?_;have dw:Hid<|Nw w ei:=dv.o.trans<|ji cc
   conv=>arg 2;whnf
   go_wp2_with fail
   refine cj.o .ret _ _ ?_;rw[<-dk.o];refine⟨rfl,.bool bL,fun t d=>⟨t,d, ?_⟩,rfl,dw.o⟩;show(aN Tryz.f3 _).run prog _=_;simp[aN,Tryz.results3,go_sem]
end P
namespace A
open Go Go.Conc
variable [pn:Pn]
section
variable {Post:Zv→Zy→Prop}
section
variable {P:Program} {F:Array Func} {X:Nat->Prop}
def vR.ends{g:Zg}{w:Zy}{m:Machine}{t:Trace}(U:vR P X g w m t)
  (h:∀u:Zy,Sm P X (A.re w u.tape u.drawn) u->∃val es u',stepG P bL g u= .ended (.done val) u' es/\(∀e∈es,xR X u.heap.size e)/\Post val u'):
  ∃N last o w' t',runNT P (N+1) m t=(.ended o w',t')/\runN P N m= .next last/\step P last= .ended o w'/\Conc.Good P Post last o w' t':=by
 obtain⟨⟨a,v,sl,k,rfl,l,y,G⟩,ok,c,J⟩:=U;refine run_of_inv BO (fun k m t=>∃(a:Array _) (v:Zy) (sl:Option _),m=Conc.crowd a v sl/\a[0]?=bO g/\JL P X k a v t/\Sm P X (A.re w v.tape v.drawn) v) _ ?_ k _ _ ⟨a,v,sl,rfl,l,y,G⟩;clear y G l;rintro k m t ⟨a,v,sl,rfl,l,y,G⟩;have I:∀g∈a,awake g:=by
  intro f n;obtain⟨i,p,rfl⟩:=Z1.1 n;rcases jl i with rfl|b
  have:a[0]=g:=by simpa[xg p]using l
  rw[this];exact awake_of<|.inl c;exact J5.awake k a v t y i _ b<|xg p
 obtain⟨i,f,d,F,p,n,E⟩:=crowd_pick (P:=P) (w:=v) (sl:=sl) I ⟨0,g,l,c⟩;have z:=J5.drawn k a v t d y;have C:Sm P X (A.re w v.tape d)<|v.at d:=G.re _ d;rcases jl i with rfl|b
 obtain rfl:f=g:=by rw[l]at p;exact(jf p).symm
 obtain⟨val,es,u',D,K,r⟩:=h (v.at d) C;have s:=runT_many_ended (sl:=F) p (show stepG P _ f _=_ from D);obtain⟨q,S,T,rfl⟩:=z;have B:=T.own (fn:=f.frame.fn) (pos:=f.frame.place) K;refine .inl ⟨_,_,_,E.trans s,val,rfl,r,B.clean,B.over,⟨fun x O=>?_,rfl⟩,fun j x O L=>?_⟩;obtain⟨j,L⟩:=List.mem_iff_getElem?.1 O;rw[PK]at L;exact⟨_,(S.old (1+j) x (by omega)<|by simpa[Conc.crowd]using L).leaves⟩;have V:=S.old j x (by omega) O;refine⟨q j, ?_⟩;have e:(t++MemOp.ofEvents 0 f.frame.fn f.frame.place es).deaf j (t++MemOp.ofEvents 0 f.frame.fn f.frame.place es).size=Deaf t j:=
  Deaf_other t (g':=0) (by omega) _ (fun op M=>by obtain⟨e,_,rfl⟩:=zy M;rfl)
 rw[e];exact V.hears _;obtain⟨H,v',R,Q,W,Y,Z,r3,r4,r5⟩:=J5.other k a (v.at d) t i f g F z b p n l c J;exact .inr ⟨_,Q,W,E.trans Y,Z,H,v',R,rfl,r3,r4,r5 w C⟩
def SD(B:Nat):qD X B #[]:=
 ⟨past_nil.clean,fun i a b c=>by simp[touchAt,Trace.act?]at b,past_nil.over,past_nil.hears,fun i a b=>by simp[touchAt,Trace.act?]at b⟩
def CT{N0:Nat}{m m1:Machine}{t t1:Trace}(a:runNT P N0 m t=(.next m1,t1))(h:∃N last o w' t',runNT P (N+1) m1 t1=(.ended o w',t')/\runN P N m1= .next last/\step P last= .ended o w'/\Conc.Good P Post last o w' t'):
  ∃N last o w' t',runNT P (N+1) m t=(.ended o w',t')/\runN P N m= .next last/\step P last= .ended o w'/\Conc.Good P Post last o w' t':=by
 obtain⟨N,last,o,w',t',b,c,d,e⟩:=h;refine⟨N0+N,last,o,w',t', ?_, ?_,d,e⟩;rw[Ja];exact ql a b;have f:(runNT P (N0+N) m t).1=(runNT P N m1 t1).1:=by
  rw[ql a (r:=(runNT P N m1 t1)) rfl]
 rw[<-runNT_fst P (N0+N) m t,f,runNT_fst];exact c
theorem zvf(K:J0 P F){f:FuncId}{args:Za}{fnc:Func}{c:Code}{R:Ending->Zy->Prop}(Z:¬Mc P f)(B:Ys P F f)(H:P.funcs[f]?=bO fnc)(O:fnc.body=bO c)
  {w v0:Zy}(h:Xn P f c (nJ P F fnc R) ⟨args++aW (fnc.ntmps-args.size) undef,[]⟩ w)(q:∀ch w',¬R (.panicked ch) w')(hS:Sm P X (A.re w v0.tape v0.drawn) v0):
  ∃N last o w' t',runNT P (N+1) (solo (G (bF P f args .normal) []) v0) #[]=(.ended o w',t')/\runN P N (solo (G (bF P f args .normal) []) v0)= .next last/\step P last= .ended o w'/\
   Conc.Good P (fun val u=>∃X' w',(∀x,X x->X' x)/\R (.returned val) w'/\Sm P X' (A.re w' u.tape u.drawn) u) last o w' t':=by
 have s:bF P f args .normal=(bF P f args .normal).at ⟨args++aW (fnc.ntmps-args.size) undef,[]⟩ [.code c]:=by
  simp[bF,Frame.at,H,O]
 have T:(wf P F).funcs[f]?=bO fnc:=by show F[f]?=_;rw[B.1];exact H
 have z:Xv P<|bF P f args .normal:=by
  have e:bF (wf P F) f args .normal=bF P f args .normal:=by simp[bF,T,H]
  rw[<-e];exact j_ K.codes B Z args ⟨by simp,by simp⟩
 have hi:P.inits.idxOf? f=bN:=z.init;have hb:vR P X (Z0 (bF P f args .normal) []) w (solo (G (bF P f args .normal) []) v0) #[]:=
  ⟨⟨#[Z0 _ []],v0,bN,_,rfl,rfl,⟨fun _=>0,⟨fun i g hi hg=>by
    have:i=0:=by have:=(za.1 hg).1;simp at this;omega
    omega,fun j hj=>rfl⟩,SD _,rfl⟩,hS⟩,⟨.inr z,fun c O=>by cases O⟩,rfl,rfl⟩
 let At:Zg->Zy->Prop:=fun g' w'=>∃(a:Act) (b:List Item) (val:Zv),g'=Z0 {(bF P f args .normal).at a b with mode:= .returning} []/\a.defers=[]/\(∀t d,∃t' d',(aN fnc a.tmps).run (wf P F) (A.re w' t d)= .ok val (A.re w' t' d'))/\R (.returned val) w';have V:RX P (Z0 (bF P f args .normal) []) w At:=by
  rw[s];refine h (bF P f args .normal) [] [] _ rfl rfl (fun e E w' k=>?_) fun e E w' g' k n=>?_;cases e with
  |normal=>trivial
  |ret=>exact k.1
  |panic ch=>exact k.1
  |exit id=>exact k.2.elim
  |goto l=>exact k.2.elim
  |outgrown=>exact k.2.elim
  cases e with
  |normal=>
   obtain⟨_,rfl⟩:=n;obtain⟨hd,v,C,q⟩:=k;refine RX.ctl K (g':=Z0 {(bF P f args .normal).at E []with mode:= .returning} []) Z (fun v=>?_) rfl rfl rfl<|.refl ⟨E,[],v,rfl,hd,C,q⟩;simp[stepG,Z0,Frame.at,stepG.exec]
  |ret=>
   obtain⟨_,b,rfl⟩:=n;obtain⟨hd,v,C,q⟩:=k;exact .refl ⟨E,b,v,rfl,hd,C,q⟩
  |panic ch=>exact(q ch w' k.2).elim
  |exit id=>exact k.2.elim
  |goto l=>exact k.2.elim
  |outgrown=>exact k.2.elim
 obtain⟨N,m',t',X',g',w',L,x1,b1,a,b,val,rfl,hd,C,M⟩:=V X _ _ hb;refine CT L<|b1.ends fun u r=>?_;obtain⟨t1,Y,D⟩:=C u.tape u.drawn;obtain⟨p,m,I⟩:=(QM (P:=P) (F:=F) (X:=X') fnc a.tmps).gJ _ u #[] r (by rw[D];trivial);rw[D]at I;have J:Sm P X' (A.re w' t1 Y) p:=I.sm;have W:p.heap.size=u.heap.size:=J.size.trans r.size.symm;refine⟨val,seen P f (#[]++m)++#[],p, ?_,fun e s=>?_,X',w',x1,M, ?_⟩;have U:(aN fnc a.tmps).runT P u #[]=(.ok val p,#[]++m):=I.eq;have y:=IM (fr:={(bF P f args .normal).at a b with mode:= .returning}) (by simp[bF,Frame.at]) hi val p;show unwind P bL {(bF P f args .normal).at a b with mode:= .returning} [] bN u=_;have Q:({(bF P f args .normal).at a b with mode:= .returning}:Zf).defers=[]:=hd;have S:P.funcs[({(bF P f args .normal).at a b with mode:= .returning}:Zf).fn]?=bO fnc:=H;unfold unwind;rw[Q];simp only[S];rw[show(aN fnc ({(bF P f args .normal).at a b with mode:= .returning}:Zf).tmps).runT P u #[]=(.ok val p,#[]++m)from U];simp only[y];rfl;have s:e∈seen P f (#[]++m):=by simpa using s
 have:=I.evs e (by simpa using mem_seen s);rw[W]at this;exact .pV this;have L:p.tape=t1:=J.tape;have e2:p.drawn=Y:=J.drawn;rw[L,e2];exact J
end
end
end A
namespace P
open Go.RowKit A Go Go.Conc
def WQ:Obj->Bool
 | .pending ..=>bL
 | .deferred _=>bL
 | .loop _=>bL
 |_=>bK
def EZ(j:Nat):Obj:= .chan j #[] bK 0 0 bK
def clean(j:Nat)(o:Obj):Obj:=if WQ o=bL then EZ j else o
def oH(j:Nat)(v:Zy):Zy:={v with heap:=v.heap.map<|clean j}
def X0(v:Zy)(r:Nat):Prop:=∃o,v.heap[r]?=bO o/\WQ o=bL
abbrev oO(v:Zy):Pn:=⟨⟨v.heap.size,fun r=>v.heap[r]?⟩⟩
section
variable {j r:Nat} {v:World}
def I_:(oH j v).heap[r]?=(v.heap[r]?).map (clean j):=by simp[oH]
def JK:(oH j v).heap.size=v.heap.size:=by simp[oH]
def D7(h:¬X0 v r):(oH j v).heap[r]?=v.heap[r]?:=by
 rw[I_];cases e:v.heap[r]?with
 |none=>rfl
 |some o=>
  have:¬WQ o=bL:=fun a=>h ⟨o,e,a⟩;simp[clean,this]
def Bc(h:X0 v r):(oH j v).heap[r]?=bO (EZ j):=by
 obtain⟨o,e,a⟩:=h;rw[I_,e];simp[clean,a]
def wR{a:Addr}{x:Zv}(h:v.cell? a=bO x):(oH j v).cell? a=bO x:=by
 obtain⟨g,e,i,d,_⟩:=A.cells_of_cell (pn:=oO v) (py:=⟨137⟩) h;have f:¬X0 v a.block:=by
  rintro⟨o,b,c⟩;rw[d]at b;cases b;cases c
 have e:=D7 (j:=j) f;unfold World.cell? at h⊢;rw[e];exact h
def mC(P:Zp):Sm (pn:=oO v) P (X0 v) (A.re (oH j v) v.tape v.drawn) v:=by
 refine @Sm.mk (oO v) P (X0 v) (A.re (oH j v) v.tape v.drawn) v JK.symm (fun r a=>(D7 a).symm) (fun r a=>?_) (fun r=>?_) rfl rfl rfl rfl ⟨Nat.le_of_eq JK.symm,fun r _ _=> .inl rfl⟩;have b:=Bc (j:=j) a;obtain⟨o,e,c⟩:=a;exact⟨EZ j,o,b,e,.inl ⟨rfl,by cases o<;>first|rfl|cases c⟩⟩;show A.dL P (oH j v).heap[r]?;rw[I_];cases v.heap[r]?with
 |none=>exact .none
 |some o=>cases o<;>exact⟨fun _ _ h=>(by cases h),fun _ h=>(by cases h),fun _ h=>(by cases h)⟩
end
def iA.ref{cv tv:Zv}{v:Zy}(h:iA cv tv v)(j:Nat):iA cv tv<|oH j v:=by
 obtain⟨⟨t,x,a,b⟩,⟨g,k,c,d⟩,e⟩:=h;exact⟨⟨t,x,a,wR b⟩,⟨g,k,c,wR d⟩,fun i f=>wR<|e i f⟩
def AL.ref{v:Zy}{x:Zv}{D:List Ac}(h:AL v.heap.size v x D)(j:Nat):AL (oH j v).heap.size (oH j v) x D:=by
 obtain⟨a,b,n,o,p⟩:=h;refine⟨a,b,n,o,fun i q=>?_⟩;obtain⟨g,c,l,m,d,e,f,k,c4⟩:=p i q;exact⟨g,c,l,by rw[JK];exact m,wR d,wR e,wR f,wR k,wR c4⟩
def vac.ref{cv tv:Zv}{v:Zy}(h:vac v.heap.size cv tv v)(j:Nat):vac (oH j v).heap.size cv tv<|oH j v:=by
 obtain⟨a,b,c,d,n,o,e,f,g,l,m,i,k⟩:=h;rw[JK];exact⟨a,b,c,d,n,o,e,f,g,l,m,by rw[I_,i];rfl,by rw[I_,k];rfl⟩
def ZT{P:Zp}{o:Outcome}{w:Zy}{t':Trace}:∀{n:Nat} {m:Machine} {t:Trace},runNT P n m t=(.ended o w,t')->∀k,runNT P (n+k) m t=(.ended o w,t')
 |0,m,t,h,k=>by simp[runNT]at h
 |n+1,m,t,h,k=>by
  rw[Nat.add_right_comm];unfold runNT at h⊢;split at h;exact ZT h k;exact h
def WN(v u:Zy):Prop:=u.os=v.os/\u.output=v.output/\v.heap.size<=u.heap.size/\∀r,r<v.heap.size->u.heap[r]?=v.heap[r]?
def vaj{cv tv:Zv}(E:Zl)(l:Int)(C:-9223372036854775808<=l/\l<=9223372036854775807)(x:Zv)(I:List Ac)(H:Zl)(g:Int)(B:-9223372036854775808<=g/\g<=9223372036854775807){v:Zy}(W:iA cv tv v)(y:vac v.heap.size cv tv v)(z:AL v.heap.size v x I):
  ∃N last o w' t',runNT bM (N+1) (solo (G (bF bM 3 #[.string<|st E,.int .i64 l,x,.string<|st H,.int .i64 g] .normal) []) v) #[]=(.ended o w',t')/\runN bM N (solo (G (bF bM 3 #[.string<|st E,.int .i64 l,x,.string<|st H,.int .i64 g] .normal) []) v)= .next last/\step bM last= .ended o w'/\
   Go.Conc.Good bM (fun val u=>val= .bool bL/\WN v u) last o w' t':=by
 have k:∀j,_:=fun j=>zvf (pn:=oO v) (bQ (pn:=oO v)) (nmc4 (pn:=oO v)) (bZ (pn:=oO v) rfl Tryz.func3 rfl) Tryz.func3 (xV (pn:=oO v)) (vap (pn:=oO v) E l C x I H g B (W.ref j) (y.ref j)<|z.ref j) (fun ch w' h=>by cases h.1)<|mC (j:=j) (v:=v) bM;obtain⟨N,last,o,w',t',K,O,Q,val,rfl,⟨X1,w1,Z,c,s⟩,R⟩:=k 0;obtain⟨J,D,o2,a,F,S,b2,b3,m,rfl,⟨X2,w2,x2,y,Y⟩,b5⟩:=k 1;obtain rfl:a=w':=by
  have T:=ZT K<|J+1;have t:=ZT S<|N+1;rw[zW<|J+1]at t;rw[T]at t;have U:(m=val/\a=w')/\F=t':=by simpa using t.symm
  exact U.1.2
 have i:∀{j:Nat} {p:ZP} {n:Zy},(∀r,X0 v r->p r)->Nw (oH j v) n->Sm (pn:=oO v) bM p (A.re n a.tape a.drawn) a->∀r,r<v.heap.size->a.heap[r]?=v.heap[r]?\/(X0 v r/\a.heap[r]?=bO (EZ j)):=by
  intro j p n hx X M r d;have L:n.heap[r]?=(oH j v).heap[r]?:=X.block r (by rw[JK];exact d) id;have f:a.heap[r]?=n.heap[r]?->a.heap[r]?=v.heap[r]?\/(X0 v r/\a.heap[r]?=bO (EZ j)):=fun e=>by
   rw[L]at e;rcases Classical.em (X0 v r)with b|b
   exact .inr ⟨b,e.trans<|Bc b⟩;exact .inl<|e.trans<|D7 b
  rcases Classical.em (p r)with w|w;rcases(Sm.pin (pn:=oO v) M).2 r w d with e|e;exact .inl e;exact f e;exact f<|Sm.out (pn:=oO v) M r w
 refine⟨N,last,_,a,t',K,O,Q,val,rfl,⟨?_, ?_, ?_, ?_,fun r d=>?_⟩,R⟩;have:=c.1;simpa using this;exact(Sm.os (pn:=oO v) s).trans c.2.os;exact(Sm.output (pn:=oO v) s).trans c.2.output;have e0:=Sm.size (pn:=oO v) s;have L:a.heap.size=w1.heap.size:=e0;have V:=c.2.size;rw[JK]at V;omega;rcases i Z c.2 s r d with e|⟨b,e⟩
 exact e;rcases i x2 y.2 Y r d with q|⟨_,q⟩
 exact q;rw[e]at q;simp[EZ]at q
end P
namespace P
open Go.RowKit A Go.ChangeShapes Go.WideShapes
def Uc:Tryz.prog.cellsOf 47=5:=by kernel_rfl
def JR{w:Zy}{base:Nat}{a:Addr}{n:Nat}{cs:Ze}(h:w.cells? base a n=bO cs)(i:Nat)(e:i<n):∃v,cs[i]?=bO v/\w.cell? (a.add i)=bO v:=by
 unfold World.cells? at h;split at h;obtain⟨b,c,d⟩:=Lib.mapM_at h i i (by simp[e]);exact⟨b,c,d⟩;cases h
def xoj(s:ByteArray):st s.data.toList=s:=by cases s;simp[st]
def Gk{H:Type}{enc:Zt×Zv->H}{W:Zy}{fuel:Nat}{a:Addr}{cs:Ze}{x:DataW H×List MemPlace}
  (e:W.cells? 0 a 5=bO cs)(E:DataW.trod enc bM W 0 (fun _=>bL) bL fuel 47 cs=bO x):
  ∃g off d,a=(zq g off)/\Ac.At W g off d:=by
 obtain⟨N,e0,i⟩:=JR e 0 (by decide);obtain⟨O,j,w⟩:=JR e 1 (by decide);obtain⟨Q,l,y⟩:=JR e 2 (by decide);obtain⟨R,m,z⟩:=JR e 3 (by decide);obtain⟨S,o,B⟩:=JR e 4 (by decide);obtain⟨M,n,_,rfl,v,f,b⟩:=DataW.trod_struct Tryz.underlying47 E;rw[Uc]at v
 match cs,v with
 |[u0,u1,u2,u3,u4],_=>
  match M,f with
  |[x0,x1,x2,x3,x4],_=>
   have p:=b 0 _ rfl;have q:=b 1 _ rfl;have r:=b 2 _ rfl;have s:=b 3 _ rfl;have t:=b 4 _ rfl;simp only[Xl,Xb]at p q r s t;simp only[Xl,Xb,zp]at e0 j l m o;obtain⟨k,hk,_,_⟩:=DataW.trod_int Tryz.underlying3 p;obtain⟨J,G,_,_⟩:=DataW.trod_int Tryz.underlying3 q;obtain⟨I,F,_,_⟩:=DataW.trod_int Tryz.underlying3 r;obtain⟨K,C,_,_⟩:=DataW.trod_string Tryz.underlying9 s;obtain⟨L,D,_,_⟩:=DataW.trod_string Tryz.underlying9 t;cases hk;cases G;cases F;cases C;cases D;subst e0;subst j;subst l;subst m;subst o;obtain⟨g,off,h⟩:=a;have c:h=bN:=by simpa[Addr.add]using World.cell?_spot i
   subst c;rw[Go.WideShapes.add_plain]at i w y z B;exact⟨g,off,⟨k,J,I,K.data.toList,L.data.toList⟩,rfl,i,w,y,z,B⟩
def QQ{H:Type}{enc:Zt×Zv->H}{W:Zy}{fuel:Nat}{a0:Option Addr}{len cap:Nat}{x:DataW H×List MemPlace}
  (B:DataW.trod enc bM W 0 (fun _=>bL) bL fuel 22 (Value.slice a0 len cap).cells.toList=bO x):∃D,AL W.heap.size W (.slice a0 len cap) D:=by
 have p:DataW.trod enc bM W 0 (fun _=>bL) bL fuel 22 [Value.slice a0 len cap]=bO x:=B;rcases DataW.trod_slice Tryz.underlying22 p with⟨c,_⟩|⟨a,w,r,j,y,n,_,c,J,_,G,I,v,o,_,_⟩
 cases c;exact⟨[],bN,0,rfl,by simp,fun i h=>by simp at h⟩;cases c;have f:∀i,i<len->∃g b d,a.add (i*5)=(zq g b)/\Ac.At W g b d:=by
  intro i k;have t:=o i k;have q:i<j.length:=by omega
  rw[Uc,Yh q,Option.bind_eq_some_iff]at t;obtain⟨F,c,C⟩:=t;exact Gk c C
 have e:∀i,i<len->∃d,∃g b,bO a=bO ⟨g,b,bN⟩/\g<W.heap.size/\Ac.At W g (b+i*5) d:=by
  intro i k;obtain⟨z,E,_,m,_⟩:=f 0 (by omega);rw[Nat.zero_mul]at m;have m:a=(zq z E):=by simpa[Addr.add]using m
  subst m;obtain⟨g,b,d,s,l⟩:=f i k;rw[Go.WideShapes.add_plain]at s;cases s;exact⟨d,_,_,rfl,qz l.1,l⟩
 refine⟨List.ofFn fun i:Fin len=>Classical.choose<|e i i.2,bO a,cap,by rw[List.length_ofFn],by rw[List.length_ofFn];omega,fun i k=>?_⟩;rw[List.length_ofFn]at k;rw[List.getElem_ofFn];exact XZ<|e i k
end P
namespace P
open Go.ChangeShapes Go.WideShapes Go.ChangeAt Go.RowKit A Go.Conc
open Go.ChangeMaps (open_string shut_string)
def own:ownKnob Tryz.prog.godebug=bN:=by kernel_rfl
def UD:laidOutB bM=bL:=by kernel_rfl
def Gq:Tryz.prog.globalNamed "coffer/prim.roundWords"=bO 2:=by kernel_rfl
def Q2:(Tryz.prog.globals[2]?).map (·.type)=bO 236:=by kernel_rfl
def xw8:Tryz.prog.globalNamed "coffer/disk.ErrCrashed"=bO 0:=by kernel_rfl
def P3:(Tryz.prog.globals[0]?).map (·.type)=bO 212:=by kernel_rfl
def xw9:Tryz.prog.globalNamed "coffer/coffer.errTampered"=bO 1:=by kernel_rfl
def R1:(Tryz.prog.globals[1]?).map (·.type)=bO 212:=by kernel_rfl
def F0:Tryz.prog.cellsOf 236=64:=by kernel_rfl
def E6:Tryz.prog.cellsOf 232=1:=by kernel_rfl
def Ki:List Int:=[1116352408,1899447441,3049323471,3921009573,961987163,1508970993,2453635748,2870763221,3624381080,310598401,607225278,1426881987,1925078388,2162078206,2614888103,3248222580,3835390401,4022224774,264347078,604807628,770255983,1249150122,1555081692,1996064986,2554220882,2821834349,2952996808,3210313671,3336571891,3584528711,113926993,338241895,666307205,773529912,1294757372,1396182291,1695183700,1986661051,2177026350,2456956037,2730485921,2820302411,3259730800,3345764771,3516065817,3600352804,4094571909,275423344,430227734,506948616,659060556,883997877,958139571,1322822218,1537002063,1747873779,1955562222,2024104815,2227730452,2361852424,2428436474,2756734187,3204031479,3329325298]
def xs8:∀i:Fin 64,Ki.getD i.val 0=u (Kc i.val):=by decide+kernel
def ZV{P:Zp}{W:Zy}{x:String×DataW Unit}{rest:List<|String×DataW Unit}(h:laidMet P (x::rest) W):laidMet P rest W:=by
 obtain⟨r,⟨g,t,k,c,p,q,l,m,n,o,d,e⟩,j,f⟩:=h;subst e;exact⟨q,d,(List.nodup_append.1 j).2.1,fun b a i=>f b a<|List.mem_append_right _ i⟩
def vbg: "*" ++ "errors.errorString"= "*errors.errorString":=by decide
def row388(u:Zt)(h:Tryz.prog.typeName? 3 u=bO "*errors.errorString"):u=388:=
 typeName_ptr_named (nm:= "errors.errorString") (by rw[vbg];kernel_rfl) (by kernel_rfl) (by decide) u (by rw[vbg];exact h)
def cells410:Tryz.prog.cellsOf 410=1:=by kernel_rfl
def cells9:Tryz.prog.cellsOf 9=1:=by kernel_rfl
def vad{W:Zy}{n:String}{g:Nat}{v:Zv}(a:Tryz.prog.globalNamed n=bO g)(h:W.var? bM n=bO #[v]):W.cell? (zq g 0)=bO v:=by simpa using World.var?_cell a h 0
def xq3{W:Zy}(h:laidMetH bM Rows.clippedRow.laid W):∃cv tv,iA cv tv W/\vac W.heap.size cv tv W:=by
 have g:laidMet bM [("coffer/prim.roundWords",Rows.laid_coffer_prim_roundWords),("coffer/disk.ErrCrashed",Rows.laid_coffer_disk_ErrCrashed),("coffer/coffer.errTampered",Rows.laid_coffer_coffer_errTampered)] W:=h;have t:Lib.TabIs bM W "coffer/prim.roundWords" .u32 Ki:=Lib.tabIs_of_head Gq Q2 Tryz.underlying236 Tryz.underlying232 E6 F0 g;obtain⟨l,m,s,v,n,p,q,r,d,f,_,_,_,_,_,_,c,a,b⟩:=laid_sentinels2 (ZV g) xw8 P3 xw9 R1 Tryz.underlying212 row388 Tryz.underlying388 Tryz.underlying410 rfl rfl Tryz.underlying9 cells410 cells9;have k:∀{i:Nat} {o:Obj},W.heap[i]?=bO o->i<W.heap.size:=fun h=>(za.1 h).1;refine⟨_,_,⟨⟨_,_,rfl,vad xw8 d⟩,⟨_,_,rfl,vad xw9 f⟩,fun i j=>?_⟩,l,m,n,p,q,r,rfl,rfl,fun e=>c e.symm,k a,k b,a,b⟩;rw[t.cell Gq i j,xs8 ⟨i,j⟩]
def WN.below{v u:Zy}(h:WN v u):Below v.blind.heap.size v.blind u.blind:=⟨h.1,rfl,h.2.1,h.2.2.1,h.2.2.2⟩
abbrev xqt:ByteArray:={data:=#[116,104,101,32,109,97,99,104,105,110,101,32,115,116,111,112,112,101,100]}
abbrev xvt:ByteArray:={data:=#[115,111,109,101,98,111,100,121,32,104,97,115,32,98,101,101,110,32,97,116,32,116,104,101,32,100,105,115,107]}
noncomputable def low:Nat:=(World.holding bM default ⟨#[],#[],[]⟩).heap.size
noncomputable def Mi(os:Os):Zy:=
 let w0:=World.holding bM os ⟨#[.cells #[.string xqt] 410,.cells #[.string xvt] 410],#[],[]⟩
 {w0 with heap:=((w0.heap.modify 2 fun
   | .cells _ t frozen=> .cells #[zu 1116352408,zu 1899447441,zu 3049323471,zu 3921009573,zu 961987163,zu 1508970993,zu 2453635748,zu 2870763221,zu 3624381080,zu 310598401,zu 607225278,zu 1426881987,zu 1925078388,zu 2162078206,zu 2614888103,zu 3248222580,zu 3835390401,zu 4022224774,zu 264347078,zu 604807628,zu 770255983,zu 1249150122,zu 1555081692,zu 1996064986,zu 2554220882,zu 2821834349,zu 2952996808,zu 3210313671,zu 3336571891,zu 3584528711,zu 113926993,zu 338241895,zu 666307205,zu 773529912,zu 1294757372,zu 1396182291,zu 1695183700,zu 1986661051,zu 2177026350,zu 2456956037,zu 2730485921,zu 2820302411,zu 3259730800,zu 3345764771,zu 3516065817,zu 3600352804,zu 4094571909,zu 275423344,zu 430227734,zu 506948616,zu 659060556,zu 883997877,zu 958139571,zu 1322822218,zu 1537002063,zu 1747873779,zu 1955562222,zu 2024104815,zu 2227730452,zu 2361852424,zu 2428436474,zu 2756734187,zu 3204031479,zu 3329325298] t frozen
   |o=>o).modify 0 fun
   | .cells _ t frozen=> .cells #[.iface 388<|zo low] t frozen
   |o=>o).modify 1 fun
   | .cells _ t frozen=> .cells #[.iface 388<|zo<|low+1] t frozen
   |o=>o}
def W1(a:Os):laidMet bM Rows.clippedRow.laid ((Mi a).forCall (fun _ _=>0) ⟨#[],#[.string ⟨#[]⟩,zi 0,.slice bN 0 0,.string ⟨#[]⟩,zi 0],[]⟩).memory:=
 laidMet_of_run' 70 (by kernel_rfl) (by kernel_rfl)
def xvf(a:Os){H:Type}(enc:Zt×Zv->H):∃places,DataW.whole enc bM ((Mi a).forCall (fun _ _=>0) ⟨#[],#[.string ⟨#[]⟩,.int .i64 0,.slice bN 0 0,.string ⟨#[]⟩,.int .i64 0],[]⟩).memory Tryz.f3.params.toList Rows.clippedSpec.vars bK (#[Value.string ⟨#[]⟩,.int .i64 0,.slice bN 0 0,.string ⟨#[]⟩,.int .i64 0]).toList 8=bO ([.lit<|.string [],.lit<|.int .i64 0,.nil,.lit<|.string [],.lit<|.int .i64 0],[],places):=
 ⟨[],by kernel_rfl⟩
def xxj{H:Type}{enc:Zt×Zv->H}(W:Zy)(base:Nat)(args:Za)(S gs:List<|DataW H)(c:List MemPlace)
  (a:∀(j:Nat) t v,Tryz.f3.params[j]?=bO t->args[j]?=bO v->Value.okWide bM W .any base t v)
  (Z:DataW.Whole enc bM Tryz.f3.params.toList Rows.clippedSpec.vars bK W args.toList S gs c)(hL:laidMetH bM Rows.clippedRow.laid W):
  ∃M last o w' t',runNT bM (M+1) (solo (G (bF bM 3 args .normal) []) W) #[]=(.ended o w',t')/\runN bM M (solo (G (bF bM 3 args .normal) []) W)= .next last/\step bM last= .ended o w'/\
   Conc.Good bM (fun v W'=>Rows.clippedSpec.post enc bM Tryz.f3 bK bL bK bK W.blind args v W'.blind) last o w' t':=by
 have f:=Z;obtain⟨p,q,k,hV,rfl,bb,bc⟩:=Z;have Y:DataW.TrodAll enc bM W 0 (fun _=>bL) bL Tryz.f3.params.toList args.toList S p:=k;rw[Tryz.params3]at Y a;obtain⟨vm,vs,dm,ba,pm,qm,b,rfl,rfl,hm,g⟩:=trodAll_cons Y;obtain⟨N,O,Q,R,d1,d2,d3,d4,p1,p2,p3,p4,J,rfl,rfl,U,n,V,X⟩:=trodAll_four (args:=vs.toArray) (by simpa using g);obtain rfl:args=#[vm,N,O,Q,R]:=by
  have e:vs=[N,O,Q,R]:=by simpa using congrArg Array.toList J
  rw[e]at b;cases args;simpa using b
 obtain⟨rfl,rfl⟩:=trodVars_none hV;have w:=hm;have y:=U;have z:=n;have B:=V;have C:=X;obtain⟨s0,rfl,rfl,rfl,bd⟩:=open_string Tryz.underlying9 (a 0 9 vm rfl rfl) hm;obtain⟨n1,rfl,rfl,rfl,l⟩:=open_int Tryz.underlying3 (a 1 3 N rfl rfl) U;obtain⟨a0,L,s,rfl⟩:=okWide_slice Tryz.underlying22<|a 2 22 O rfl rfl;obtain⟨s3,rfl,rfl,rfl,be⟩:=open_string Tryz.underlying9 (a 3 9 Q rfl rfl) V;obtain⟨r,rfl,rfl,rfl,m⟩:=open_int Tryz.underlying3 (a 4 3 R rfl rfl) X;obtain⟨T,hf⟩:=n;clear k;simp only[Xq]at f;have E:∀x∈p2,x.block<W.heap.size:=fun x d=>f.lt x (by simpa using d);obtain⟨D,hD⟩:=QQ hf;obtain⟨cv,tv,hG,n⟩:=xq3 hL;have F:-9223372036854775808<=n1/\n1<=9223372036854775807:=by
  simp only[Lit.wf,xl,X9]at l;exact l
 have I:-9223372036854775808<=r/\r<=9223372036854775807:=by
  simp only[Lit.wf,xl,X9]at m;exact m
 obtain⟨M,last,o,w',t',r1,r2,r3,r4⟩:=vaj s0.data.toList n1 F _ D s3.data.toList r I hG n hD;rw[xoj,xoj]at r1 r2;refine⟨M,last,o,w',t',r1,r2,r3,r4.mono fun v hp=>?_⟩;obtain⟨rfl,hk⟩:=hp;have i:=hk.below;have K:=DataW.Whole.of_heap (w':=W.blind) (by rfl) f;have t0:DataW.Trod enc bM W.blind 0 (fun _=>bL) bL 9 (.string s0) _ []:=DataW.Trod.of_heap (by rfl) w;have t1:DataW.Trod enc bM W.blind 0 (fun _=>bL) bL 3 (.int .i64 n1) _ []:=DataW.Trod.of_heap (by rfl) y;have t2:DataW.Trod enc bM W.blind 0 (fun _=>bL) bL 22 (.slice a0 L s) d2 p2:=DataW.Trod.of_heap (by rfl) z;have t3:DataW.Trod enc bM W.blind 0 (fun _=>bL) bL 9 (.string s3) _ []:=DataW.Trod.of_heap (by rfl) B;have t4:DataW.Trod enc bM W.blind 0 (fun _=>bL) bL 3 (.int .i64 r) _ []:=DataW.Trod.of_heap (by rfl) C;refine⟨_,_,_,[],_,[],K,trodAll_cons_mk (shut_bool Tryz.underlying4 _) trodAll_mk0,
  trodAll_cons_mk (Below.trod UD (by kernel_rfl) (Xj<|by kernel_rfl) t0 i fun x d=>by cases d) (trodAll_cons_mk (Below.trod UD (by kernel_rfl) (Xj<|by kernel_rfl) t1 i fun x d=>by cases d)
   (trodAll_cons_mk (Below.trod UD (by kernel_rfl) (Xj<|by kernel_rfl) t2 i E)<|trodAll_cons_mk (Below.trod UD (by kernel_rfl) (Xj<|by kernel_rfl) t3 i fun x d=>by cases d)<|trodAll_cons_mk (Below.trod UD (by kernel_rfl) (Xj<|by kernel_rfl) t4 i fun x d=>by cases d) trodAll_mk0)),rfl,i.frame _,fun h=>by cases h⟩
def lifted(h:Os)(a:h.Started)(H:Type)(enc:Zt×Zv->H):
  ReturnsInLeavingWide {} Tryz.checked h 3 .any ((OpenSpec.ofChange Rows.clippedSpec).preRow enc bM Tryz.f3 Rows.clippedRow.domain bK Rows.clippedRow.laid) (Rows.clippedSpec.post enc bM Tryz.f3 bK bL bK bK):=by
 obtain⟨j,t⟩:=xvf h enc;refine returnsInLeavingWide_of_good own a
  (witness_row_at bK _ _ rfl (by kernel_rfl) (by kernel_rfl) (by kernel_rfl)
   (OpenSpec.preRow_of_cond 8 t (by kernel_rfl) (fun k hk=>by cases hk) (by kernel_rfl)<|W1 h)) ?_
 intro w f i _ _ _ m c _;obtain⟨_,_,_,l,b,_,_,_,_,d⟩:=m;have e:l=Tryz.f3:=jf<|b.symm.trans Tryz.func3;subst e;obtain⟨⟨r,q⟩,x⟩:=c;obtain⟨o,p,g,s,v,hk⟩:=OpenSpec.pre_parts r;have n:=DataW.Whole.of_heap (w':=w.forCall f i) (by rfl) s;exact xxj _ _ _ o p _ d n<|q.of_heap<|by rfl
end P
namespace P
open Go.RowKit A
def gX{a b:Bool}(h:a=bL)(k:b=bL):(a&&b)=bL:=by rw[h,k];rfl
def j0:(Rows.clippedRow.wf<|OpenSpec.ofChange Rows.clippedSpec)=bL:=by kernel_rfl
def j1:(laidOutB Tryz.pinned.checked.prog)=bL:=by kernel_rfl
def j2:(mapsRowed Tryz.pinned.checked.prog)=bL:=by kernel_rfl
def j3:(Tryz.f3.params.all (Tryz.pinned.checked.prog.readableRec ·))=bL:=by kernel_rfl
def j4:(namedTie Tryz.pinned.checked.prog Rows.clippedRow.named Rows.clippedSpec.vars)=bL:=by kernel_rfl
def j5:((Rows.clippedRow.stops==[]))=bL:=by kernel_rfl
def j6:((Tryz.pinned.checked.prog.stops==[]))=bL:=by kernel_rfl
def j7:((Rows.clippedRow.knobs==[]))=bL:=by kernel_rfl
def j8:((Tryz.pinned.checked.prog.stopKnobs==[]))=bL:=by kernel_rfl
def j9:((Rows.clippedRow.inPlace==Tryz.pinned.checked.prog.inPlace 3))=bL:=by kernel_rfl
def j10:((Rows.clippedRow.unfollowed==Tryz.pinned.checked.prog.unfollowed 3))=bL:=by kernel_rfl
def j11:((Rows.clippedRow.recurses==Tryz.pinned.checked.prog.recurses 3))=bL:=by kernel_rfl
def j12:((Rows.clippedRow.named==Tryz.pinned.checked.prog.varsNamed 3))=bL:=by kernel_rfl
def j13:((Rows.clippedRow.maps==(Tryz.f3.params.toList++Rows.clippedSpec.plain.varTypes Tryz.pinned.checked.prog).any (Tryz.pinned.checked.prog.mapsRec ·)))=bL:=by kernel_rfl
def eL:((Rows.clippedRow.ifaces==(Tryz.f3.params.toList++Rows.clippedSpec.plain.varTypes Tryz.pinned.checked.prog).any (Tryz.pinned.checked.prog.ifacesRec ·)))=bL:=by kernel_rfl
def eM:((Rows.clippedRow.mapsOut==Tryz.pinned.checked.prog.mapsAmong Tryz.f3.resultTypes.toList))=bL:=by kernel_rfl
def eN:((Rows.clippedRow.loops==(Tryz.f3.params.toList++Rows.clippedSpec.plain.varTypes Tryz.pinned.checked.prog).any (Tryz.pinned.checked.prog.loopsFrom ·)))=bL:=by kernel_rfl
def eQ:((Rows.clippedRow.wideKeys==(Tryz.f3.params.toList++Rows.clippedSpec.plain.varTypes Tryz.pinned.checked.prog++Tryz.f3.resultTypes.toList).any (Tryz.pinned.checked.prog.wideKeysFrom ·)))=bL:=by kernel_rfl
def eR:(Rows.clippedSpec.vars.all (Tryz.pinned.checked.prog.varReadable ·))=bL:=by kernel_rfl
def eS:(Tryz.f3.resultTypes.all fun t=>Tryz.pinned.checked.prog.readableRec t&&decide (t<Tryz.pinned.checked.prog.types.size))=bL:=by kernel_rfl
def eV:((Rows.clippedRow.ifacesOut==Tryz.f3.resultTypes.toList.any (Tryz.pinned.checked.prog.ifacesRec ·)))=bL:=by kernel_rfl
def eW:((Rows.clippedRow.loopsOut==Tryz.f3.resultTypes.toList.any (Tryz.pinned.checked.prog.loopsFrom ·)))=bL:=by kernel_rfl
def fL:((Rows.clippedRow.plainKeys==Tryz.pinned.checked.prog.plainKeys))=bL:=by kernel_rfl
def fN:(Rows.clippedRow.shortTexts.isNone)=bL:=by kernel_rfl
def fR:(Tryz.pinned.checked.prog.stopsHeard)=bL:=by kernel_rfl
def fS:(Tryz.pinned.checked.prog.mayEnter)=bL:=by kernel_rfl
def fW:((Rows.clippedRow.lifted==Tryz.pinned.checked.prog.liftsFinal))=bL:=by kernel_rfl
def fX:((Tryz.pinned.checked.prog.make==bO Rows.clippedRow.make))=bL:=by kernel_rfl
def fY:((Rows.clippedRow.kinds==(if Rows.clippedRow.domain.isEmpty then []else Tryz.f3.params.toList.map fun t=>match Tryz.pinned.checked.prog.underlying t with|some (.int k)=>bO k|_=>bN)))=bL:=by kernel_rfl
def gA:((Rows.clippedRow.pinned==Rows.clippedRow.pinnedBy))=bL:=by kernel_rfl
def gC:((Rows.clippedRow.veiled==(Tryz.f3.params.toList++Rows.clippedSpec.plain.varTypes Tryz.pinned.checked.prog++Tryz.f3.resultTypes.toList).any (Tryz.pinned.checked.prog.veiledRec ·)))=bL:=by kernel_rfl
def gE:(Rows.clippedRow.veiledFits Tryz.pinned.checked.prog Tryz.f3.params.toList<|Tryz.f3.params.toList++Rows.clippedSpec.plain.varTypes Tryz.pinned.checked.prog++Tryz.f3.resultTypes.toList)=bL:=by kernel_rfl
def xty:joinedFacts Tryz.pinned.checked.prog 3 Tryz.f3 Rows.clippedSpec Rows.clippedRow=bL:=by
 unfold joinedFacts;exact(gX (gX (gX (gX (gX (gX (gX (gX (gX (gX (gX (gX (gX (gX (gX (gX (gX (gX (gX (gX (gX (gX (gX (gX (gX (gX (gX (gX (gX (gX (gX j0 j1) j2) j3) j4) j5) j6) j7) j8) j9) j10) j11) j12) j13) eL) eM) eN) eQ) eR) eS) eV) eW) fL) fN) fR) fS) fW) fX) fY) gA) gC) gE)
def xro:Tryz.pinned.checked.prog.funcNamed Rows.clippedRow.func=bO 3:=by kernel_rfl
def xt3:Tryz.f3.isInstance Tryz.pinned.checked.prog Rows.clippedRow.origin Rows.clippedRow.targs:=Xj<|by kernel_rfl
def xv4:Tryz.f3.isWrapper Tryz.pinned.checked.prog Rows.clippedRow.wrapper Rows.clippedRow.mainSum:=by unfold Func.isWrapper;first|(rw[aA<|by decide+kernel];kernel_rfl)|(rw[aB<|by decide+kernel];exact⟨rfl,rfl⟩)
def said:Rows.ClippedSaid:=
 OpenClaim.holds_of_wide_leaving 3 Tryz.f3 rfl rfl rfl rfl rfl rfl rfl ⟨rfl,rfl,rfl,rfl,rfl⟩ rfl rfl rfl rfl rfl xro Tryz.func3 xty xt3 xv4
  (fun c a H b _=>by rw[OpenClaim.pre_eq_preRow];exact lifted c a H b)
def plain(f:FuncId)(fn:Func)(d:Tryz.pinned.checked.prog.funcNamed "coffer/cofferkeep.Clipped"=bO f)(a:Tryz.pinned.checked.prog.funcs[f]?=bO fn):
  bL=Tryz.pinned.checked.prog.looks []/\∀(j:Nat) t,fn.params[j]?=bO t->Tryz.pinned.checked.prog.wantsStandIn t=bK:=by
 obtain rfl:f=3:=jf ((show Tryz.prog.funcNamed "coffer/cofferkeep.Clipped"=bO 3 by kernel_rfl).symm.trans d) |>.symm;obtain rfl:fn=Tryz.f3:=(jf<|Tryz.func3.symm.trans a).symm;refine⟨by kernel_rfl,fun j t c=>?_⟩;rw[Tryz.params3]at c;have b:=Wk c;simp only[List.mem_toArray,xf,Vy,or_false]at b;rcases b with rfl|rfl|rfl|rfl|rfl;exact(show Tryz.prog.wantsStandIn 9=bK by kernel_rfl);exact(show Tryz.prog.wantsStandIn 3=bK by kernel_rfl);exact(show Tryz.prog.wantsStandIn 22=bK by kernel_rfl);exact(show Tryz.prog.wantsStandIn 9=bK by kernel_rfl);exact(show Tryz.prog.wantsStandIn 3=bK by kernel_rfl)
def xt1:bL=Rows.clippedRow.goesBy Tryz.pinned.checked.prog:=by kernel_rfl
def xt7:Tryz.pinned.checked.prog.mainIs=bO (bL,"6112a70bf7700c9ef082f368a9341514db7d80b00d6c93fffd8a755e3258b503".toList):=by kernel_rfl
def card:Rows.ClippedCardSaid:=
 ⟨Claim7.tied_new_at .later [.data,.sentinel,.sentinel] bL (Claim7.new_of_sixth said (bL,"6112a70bf7700c9ef082f368a9341514db7d80b00d6c93fffd8a755e3258b503") bL rfl ⟨rfl,rfl⟩ xt7 rfl plain)<|by kernel_rfl,fun D a=>(by cases a),clipped_row_tie,(fun h=>by cases h),xt1⟩
end P
end Go.Proofs.YtjnbhiamaabbgabGreatDoor
