import Derived.Test.YtjnbhiamaabbgabGreatDoorM13
import Derived.Lib.LaidTab
import Derived.Test.YtjnbhiamaabbgabGreatDoorCards
import Derived.Test.YtjnbhiamaabbgabGreatDoorTie
import Derived.Conc.LeavingOf
import Derived.OpenShut
import Derived.Deep.DeepHandedRow
set_option linter.all false
set_option maxRecDepth 100000
set_option maxHeartbeats 8000000
namespace Go.Proofs.YtjnbhiamaabbgabGreatDoor
namespace P
open A.Tryq Go.RowKit A
variable [pn:A.Pn]
attribute [local go_sem] xe zv
section
variable {lo B b:Nat} {cv tv:Zv} {s:Jo} {k:Bok} {r:Sr} {w:Zy}
structure Pl(cv tv:Zv)(lo B b:Nat)(r:Sr)(s:Jo)(k:Bok)(w:Zy):Prop where
 st:Jq w B r
 bk:W6 w b k
 sn:r.sn=some s
 inv:Wy r s
 bok:Bk r s k
 own:∀x,r.own B x->lo<=x
 l4:2<lo
 bl:lo<=b
 glb:Glb cv tv w
theorem Pl.size(h:Pl cv tv lo B b r s k w):lo<w.heap.size:=Nat.lt_of_le_of_lt h.bl h.bk.blk.lt
def Pl.nw{w w':Zy}(h:Pl cv tv lo B b r s k w)(n:Nw w w'):Pl cv tv lo B b r s k w':=
 ⟨h.st.but n fun _ _=>id,⟨h.bk.blk.but n id,h.bk.kept.but n (fun _ _ _=>id),h.bk.seen.but n (fun _ _ _=>id)⟩,h.sn,h.inv,h.bok,h.own,h.l4,h.bl,h.glb.but (S:=fun _=>False) n fun _ x=>x.elim⟩
def Pl.ok(h:Pl cv tv lo B b r s k w):zac B r:=zac.of h.inv (.inl h.sn) fun x a=>by have:=h.own x a;have:=h.l4;omega
def Pl.to{r r':Sr}{s s':Jo}{k k':Bok}{w w' w2:Zy}(h:Pl cv tv lo B b r s k w)(t:jt B r w r' w')(f:xb (·=b) w' w2)(hk:W6 w2 b k')(j:r'.sn=some s')(i:Wy r' s')(g:Bk r' s' k'):Pl cv tv lo B b r' s' k' w2:=by
 have d:¬r'.own B b:=fun a=>(t.at_.own_type a (h.st |> fun _=>(jt.bok h.st t h.bk).blk)).2 rfl;have l:=h.size;refine⟨t.at_.but f fun x a e=>d (by have e:=e;rw[<-e];exact a),hk,j,i,g,fun x a=>?_,h.l4,h.bl, ?_⟩;rcases t.own x a with c|c
 exact h.own x c;omega;have c:xb (fun x=>r.own B x\/x=b) w w2:=(t.but.mono fun _ h=> .inl h).trans (f.mono fun _ h=> .inr h);refine h.glb.but c fun x a=>?_;have:=h.l4;rcases a with a|a
 have:=h.own x a;omega;have:=h.bl;omega
def Pl.old{r r':Sr}{w w' w2:Zy}(h:Pl cv tv lo B b r s k w)(t:jt B r w r' w')(c:xb (·=b) w' w2):xb (fun x=>lo<=x) w w2:=
 (t.but.mono fun x a=>h.own x a).trans (c.mono fun x a=>by have a:=a;rw[a];exact h.bl)
def zdc(kd N M:Int)(S T:Zl):Zv:= .agg #[.int .i64 kd,.int .i64 N,.int .i64 M,.string (st S),.string (st T)]
def zcu(cv tv:Zv)(lo B b:Nat)(r:Sr)(s:Jo)(w:Zy)(e:Ending)(w':Zy):Prop:=
 e= .returned (.bool true)/\xb (fun x=>lo<=x) w w'/\∃r' s' k',Pl cv tv lo B b r' s' k' w'/\r'.cnt<=r.cnt+2/\r'.op<=r.op+1/\s'.shots<=s.shots+1
def xfz(N M:Int)(S T:Zl)(h:Pl cv tv lo B b r s k w)(y:r.cnt<=29):
  Calls prog 21 #[zo b,zo B,zdc 5 N M S T] w (zcu cv tv lo B b r s w):=by
 have m:Hid (Nw w (w.alloc (.cells #[zi 5,zi N,zi M,zs S,zs T] 47))):=Nw.alloc _ _;have a:=zl (h.nw m.o);clear h;unfold zdc;go_enter func21.1,Tryz.ntmps21
 go_wp2_with fail
 generalize w.alloc (.cells #[zi 5,zi N,zi M,zs S,zs T] 47)=w1 at*;obtain⟨q,j⟩:=a.o.inv.sync a.o.sn (by omega);have f:=zl j;have c:=j.run;refine(xb1 B r s _ a.o.st a.o.sn a.o.ok a.o.glb a.o.inv.P (by rw[c];simp)).mono ?_;rintro e C ⟨v,z,n,rfl,i⟩;rw[c]at n;cases n;have T2:=zl i;have p:=zl (jt.bok a.o.st i a.o.bk);have l:k.recs<=1000000:=by have:=a.o.bok.recs;omega
 clear i j c
 go_wp2_with fail
 refine(zil b k l _ p.o).mono ?_;rintro e t ⟨rfl,d,g⟩;have o:Hid (zcu cv tv lo B b r s w (.returned (.bool true)) t):=by
  refine⟨rfl,((m.o.mono fun _ x=>x.elim).trans (a.o.old T2.o d)),q,r.ses1 s,k.synced,a.o.to T2.o d g f.o.sn f.o.inv (zik a.o.bok f.o), ?_, ?_, ?_⟩;rw[f.o.cnt];split<;>omega
  rw[f.o.keep.op];omega;rw[f.o.shots];omega
 clear d g
 go_wp2_with fail
 go_ret
 exact o.o
def xfv(N M:Int)(S T:Zl)(h:Pl cv tv lo B b r s k w)(m:r.cnt<=29):
  Calls prog 21 #[zo b,zo B,zdc 4 N M S T] w (zcu cv tv lo B b r s w):=by
 have f:Hid (Nw w (w.alloc (.cells #[zi 4,zi N,zi M,zs S,zs T] 47))):=Nw.alloc _ _;have a:=zl (h.nw f.o);clear h;unfold zdc;go_enter func21.1,Tryz.ntmps21;have l:(w.alloc (.cells #[zi 4,zi N,zi M,zs S,zs T] 47)).cell? (zq b 1)=some k.sv:=a.o.bk.blk.cell 1 rfl
 go_wp2_with fail
 generalize w.alloc (.cells #[zi 4,zi N,zi M,zs S,zs T] 47)=w1 at*;have c:=a.o.bok.seen;refine(zqe B r s _ k.sv _ a.o.st a.o.sn a.o.inv.P20 (fun p i=>by have:=(znx a.o.inv p i).2.1;omega) (by have:=zif a.o.inv;omega) a.o.bk.seen (by rw[c];exact(zhv _).symm) (by rw[c];exact zpf a.o.inv a.o.sn)).mono ?_;rintro e j ⟨rfl,d⟩;have g:Hid (zcu cv tv lo B b r s w (.returned (.bool true)) j):=⟨rfl,((f.o.trans d).mono fun _ x=>x.elim),r,s,k,a.o.nw d,by omega,by omega,by omega⟩;clear d c
 go_wp2_with fail
 go_ret
 exact g.o
def xjs(N M:Int)(S T:Zl)(h:Pl cv tv lo B b r s k w)(J:r.cnt<=29):
  Calls prog 21 #[zo b,zo B,zdc 1 N M S T] w (zcu cv tv lo B b r s w):=by
 have q:Hid (Nw w (w.alloc (.cells #[zi 1,zi N,zi M,zs S,zs T] 47))):=Nw.alloc _ _;have X0:Hid (xx (w.alloc (.cells #[zi 1,zi N,zi M,zs S,zs T] 47)) w.heap.size #[zi 1,zi N,zi M,zs S,zs T] 47):=xx.new _ _ _;have a:=zl (h.nw q.o);clear h;unfold zdc;go_enter func21.1,Tryz.ntmps21;have E:=X0.o.cell 0 rfl;have F:=X0.o.cell 1 rfl;have G:=X0.o.cell 2 rfl;have H:=X0.o.cell 3 rfl;have I:=X0.o.cell 4 rfl
 go_wp2_with fail
 generalize w.alloc (.cells #[zi 1,zi N,zi M,zs S,zs T] 47)=w1 at*;refine(zzw B b r s k N M S T _ a.o.st a.o.bk a.o.sn a.o.inv.P20 a.o.bok.pend (by rw[a.o.bok.seen,zlf];have:=zif a.o.inv;omega)).mono ?_;rintro e D ⟨rfl,z,y,j,d⟩;obtain⟨C,i,g,f,m,o,p⟩:=zyv a.o.inv a.o.sn a.o.bok j;have t:Hid (zcu cv tv lo B b r s w (.returned (.bool true)) D):=by
  have v:=a.o.size;have n:=a.o.l4;have l:=a.o.bl;refine⟨rfl,(q.o.mono fun _ x=>x.elim).trans (d.but.mono fun x c=>?_),z,C,y,⟨d.st,d.bk,i,g,f,fun x c=>?_,n,l,a.o.glb.but d.but fun x c=>?_⟩,by omega,by omega,by omega⟩;rcases c with c|c
  exact a.o.own x c;omega;rcases d.own x c with c|c
  exact a.o.own x c;omega;rcases c with c|c
  have:=a.o.own x c;omega;omega
 clear j d i g f m o p
 go_wp2_with fail
 go_ret
 exact t.o
def xjq(N M:Int)(S T:Zl)(h:Pl cv tv lo B b r s k w)(J:r.cnt<=29):
  Calls prog 21 #[zo b,zo B,zdc 2 N M S T] w (zcu cv tv lo B b r s w):=by
 have q:Hid (Nw w (w.alloc (.cells #[zi 2,zi N,zi M,zs S,zs T] 47))):=Nw.alloc _ _;have X0:Hid (xx (w.alloc (.cells #[zi 2,zi N,zi M,zs S,zs T] 47)) w.heap.size #[zi 2,zi N,zi M,zs S,zs T] 47):=xx.new _ _ _;have a:=zl (h.nw q.o);clear h;unfold zdc;go_enter func21.1,Tryz.ntmps21;have E:=X0.o.cell 0 rfl;have F:=X0.o.cell 1 rfl;have G:=X0.o.cell 2 rfl;have H:=X0.o.cell 3 rfl;have I:=X0.o.cell 4 rfl
 go_wp2_with fail
 generalize w.alloc (.cells #[zi 2,zi N,zi M,zs S,zs T] 47)=w1 at*;refine(zzv B b r s k N M S T _ a.o.st a.o.bk a.o.sn a.o.inv.P20 a.o.bok.pend (by rw[a.o.bok.seen,zlf];have:=zif a.o.inv;omega)).mono ?_;rintro e D ⟨rfl,z,y,j,d⟩;obtain⟨C,i,g,f,m,o,p⟩:=zyv a.o.inv a.o.sn a.o.bok j;have t:Hid (zcu cv tv lo B b r s w (.returned (.bool true)) D):=by
  have v:=a.o.size;have n:=a.o.l4;have l:=a.o.bl;refine⟨rfl,(q.o.mono fun _ x=>x.elim).trans (d.but.mono fun x c=>?_),z,C,y,⟨d.st,d.bk,i,g,f,fun x c=>?_,n,l,a.o.glb.but d.but fun x c=>?_⟩,by omega,by omega,by omega⟩;rcases c with c|c
  exact a.o.own x c;omega;rcases d.own x c with c|c
  exact a.o.own x c;omega;rcases c with c|c
  have:=a.o.own x c;omega;omega
 clear j d i g f m o p
 go_wp2_with fail
 go_ret
 exact t.o
def zqo{B:Nat}{r r1:Sr}{x:Nat}(f:r.sn=some s)(S:zi5 r s r1)(hx:r1.own B x):r.own B x:=by
 rcases hx with e|(e|e|⟨c,b,_⟩)|⟨t,d,hx⟩;exact .inl e;exact .inr (.inl (.inl (by rw[<-S.keep.D];exact e)));exact .inr (.inl (.inr (.inl (by rw[<-S.keep.M];exact e))));rw[S.inv.nx]at b;cases b;rw[S.sn]at d;cases d;refine .inr (.inr ⟨s,f, ?_⟩);unfold Sr.ses1 at hx;split at hx;exact hx;rcases hx with e|e|⟨a,n,c,g,e⟩;exact .inl e;exact .inr (.inl e);cases g
def Pl.ok1{r r1:Sr}(h:Pl cv tv lo B b r s k w)(S:zi5 r s r1):zac B r1:=zac.of S.inv (.inl S.sn) fun x a=>by have:=h.own x (zqo h.sn S a);have:=h.l4;omega
def xjt(N M:Int)(S T:Zl)(h:Pl cv tv lo B b r s k w)(Q:r.cnt<=29):
  Calls prog 21 #[zo b,zo B,zdc 6 N M S T] w (zcu cv tv lo B b r s w):=by
 have N0:Hid (Nw w (w.alloc (.cells #[zi 6,zi N,zi M,zs S,zs T] 47))):=Nw.alloc _ _;have a:=zl (h.nw N0.o);clear h;unfold zdc;go_enter func21.1,Tryz.ntmps21
 go_wp2_with fail
 generalize w.alloc (.cells #[zi 6,zi N,zi M,zs S,zs T] 47)=w1 at*;have bb:=a.o.inv.rotate a.o.sn (by omega);obtain⟨r2,O⟩:=a.o.inv.sync a.o.sn (by omega);have l:∀U,r.syncs s=(some 0,U)->zac B U:=fun U e=>by rw[O.run]at e;cases e;exact a.o.ok1 O
 have L:k.recs<=1000000:=by have:=a.o.bok.recs;omega
 have bd:k.synced.recs<=1000000:=by have:=a.o.bok.recs;show(if 0<k.pend then k.recs+1 else k.recs)<=_;split<;>omega
 have i:=a.o.bok.ep;rcases bb with⟨R,I,d,f⟩|⟨R,U,I,V,f,d,C,o,n,t,F,G,z,y⟩
 ·refine(zru B r s _ a.o.st a.o.sn a.o.ok l a.o.glb a.o.inv.P (by have:=a.o.inv.ep;omega) (by rw[d];simp)).mono ?_
  rintro e w2 ⟨v,bc,K,rfl,E⟩;rw[d]at K;cases K;have T2:=zl E;have Z:=zl (jt.bok a.o.st E a.o.bk);have m:=zl f;have HE:=zl (i.trans R);clear E O f d l i R
  go_wp2_with fail
  refine(zil b k L _ Z.o).mono ?_;rintro e p ⟨rfl,j,c⟩;have c3:p.cell? (zq b 3)=some (zi 5):=(c.blk.cell 3 rfl).trans (by show some (zi k.ep)=_;rw[HE.o];rfl);have X:Hid (zcu cv tv lo B b r s w (.returned (.bool true)) p):=by
   refine⟨rfl,((N0.o.mono fun _ x=>x.elim).trans (a.o.old T2.o j)),I,r.ses1 s,k.synced,a.o.to T2.o j c m.o.sn m.o.inv (zik a.o.bok m.o), ?_, ?_, ?_⟩;rw[m.o.cnt];split<;>omega
   rw[m.o.keep.op];omega;rw[m.o.shots];omega
  clear j c
  go_wp2_with fail
  go_ret
  exact X.o
 refine(zru B r s _ a.o.st a.o.sn a.o.ok l a.o.glb a.o.inv.P (by have:=a.o.inv.ep;omega) (by rw[d];simp)).mono ?_;rintro e w2 ⟨v,bc,K,rfl,E⟩;rw[d]at K;cases K;have T2:=zl E;have Z:=zl (jt.bok a.o.st E a.o.bk);have bf:¬(k.ep:Int)=5:=by rw[i];omega
 have be:k.ep<=5:=by rw[i];exact a.o.inv.ep
 have J:=zl (zik a.o.bok f);have HQ:Hid (∀H:Bok,H.seen=k.synced.seen->H.kept=k.synced.kept->H.pend=k.synced.pend->H.ep=k.synced.ep+1->H.recs=k.synced.recs+1->Bk I V H):=fun H e1 e2 e3 e4 e5=>by
  have hn:V.now=(r.ses1 s).now:=by unfold Jo.now;rw[F,G,f.P]
  exact⟨by rw[e1,hn];exact J.o.seen,by rw[e2,F];exact J.o.kept,by rw[e3,J.o.pend,G,f.P],by rw[e4,J.o.ep,f.ep,t],by rw[e5,J.o.recs,n]⟩
 have HI:=zl o;have Y:=zl C;have W:Hid (I.cnt<=r.cnt+2/\I.op<=r.op+1/\V.shots<=s.shots+1):=by
  refine⟨?_, ?_, ?_⟩;rw[n,f.cnt];split<;>omega
  rw[y.op];omega;rw[z];omega
 clear E O f d l i R o C n t F G z y
 go_wp2_with fail
 refine(zil b k L _ Z.o).mono ?_;rintro e p ⟨rfl,j,c⟩;have c3:p.cell? (zq b 3)=some (zi k.ep):=c.blk.cell 3 rfl;have c4:p.cell? (zq b 4)=some (zi k.synced.recs):=c.blk.cell 4 rfl;have f3:=c.blk.frz 3;have f4:=c.blk.frz 4;have i1:IntKind.i64.wrap ((k.ep:Int)+1)=(k.ep:Int)+1:=by rw[xn];omega
 have i2:IntKind.i64.wrap ((k.synced.recs:Int)+1)=(k.synced.recs:Int)+1:=by rw[xn];omega
 have X:Hid (zcu cv tv lo B b r s w (.returned (.bool true)) ((p.setCell (zq b 3) (zi ((k.ep:Int)+1))).setCell (zq b 4) (zi ((k.synced.recs:Int)+1)))):=by
  have q:xb (·=b) p ((p.setCell (zq b 3) (zi ((k.ep:Int)+1))).setCell (zq b 4) (zi ((k.synced.recs:Int)+1))):=(xb.set p (zq b 3) _).trans (xb.set _ (zq b 4) _);have ba:W6 ((p.setCell (zq b 3) (zi ((k.ep:Int)+1))).setCell (zq b 4) (zi ((k.synced.recs:Int)+1))) b {k.synced with ep:=k.ep+1,recs:=k.synced.recs+1}:=
   ⟨(c.blk.set 3 _).set 4 _,c.kept.but q (fun g D Q=>c.blk.row_ne (by decide) g D Q),c.seen.but q (fun g D Q=>c.blk.row_ne (by decide) g D Q)⟩
  exact⟨rfl,((N0.o.mono fun _ x=>x.elim).trans (a.o.old T2.o (j.trans q))),I,V,_,a.o.to T2.o (j.trans q) ba Y.o HI.o (HQ.o _ rfl rfl rfl rfl rfl),W.o.1,W.o.2.1,W.o.2.2⟩
 clear j c;generalize k.synced.recs=rc at*
 go_wp2_with fail
 go_ret
 exact X.o
def size_pl(h:Pl cv tv lo B b r s k w):
  Calls prog 19 #[zo b] w fun e w'=>e= .returned (zi (za9 k.seen))/\Nw w w':=by
 have a:=h.bok.seen;exact xod b k (by rw[a];exact(zys h.inv.now_nd).okl (znx h.inv)) (by rw[a,zlf];have:=zif h.inv;omega) _ h.bk
def shot_pl(h:Pl cv tv lo B b r s k w)(Q:r.cnt<=31)(D:s.shots<999)(J:za9 k.seen<=10000):
  Calls prog 20 #[zo B] w fun e w'=>e= .returned (zi 0)/\∃r' s',jt B r w r' w'/\r'.sn=some s'/\Wy r' s'/\Bk r' s' k.synced/\(r'.cnt<=r.cnt+2/\r'.op<=r.op+1/\s'.shots<=s.shots+1)/\Two r'.d.L (za9 k.seen):=by
 have o:=h.bok.seen;have C:(Vf s.now).length=za9 k.seen:=by rw[zx5,<-o]
 obtain⟨x,r',s',a,f,t,g,j,l,m,q,c,n,z,E⟩:=h.inv.shoot h.sn (by omega) D (by omega);have p:∀x,r.syncs s=(some 0,x)->zac B x/\x.d.L.length+2<1000000/\okL (r.ses1 s).L/\(r.ses1 s).L.length<=1000000/\0<=(r.ses1 s).shots/\(r.ses1 s).shots<=999/\(qu x.d.L (Ye (r.ses1 s).named)).length<=900000:=fun M e=>by
  rw[a.run]at e;cases e;have y:=a.inv.few;have N:=a.inv.cnt;have F:=a.inv.len;have H:=a.inv.sh0;have O:=a.shots;refine⟨h.ok1 a,by omega,a.inv.okl,by omega,H,by omega,by rw[z];simp⟩
 have G:Bk r' s' k.synced:=by
  have i:=zik h.bok a;have I:s'.now=(r.ses1 s).now:=by unfold Jo.now;rw[j,l,a.P]
  exact⟨by rw[I];exact i.seen,by rw[j];exact i.kept,by rw[i.pend,l,a.P],by rw[i.ep,a.ep,m],by rw[i.recs,c]⟩
 refine(zvy B r s _ h.st h.sn h.ok p h.glb h.inv.P (by have:=h.inv.ep;omega) (by rw[f];simp)).mono ?_;rintro e R ⟨v,K,y,rfl,F⟩;rw[f]at y;cases y;refine⟨rfl,r',s',F,t,g,G,⟨?_, ?_, ?_⟩,C▸E⟩;rw[c,a.cnt];split<;>omega
 rw[n.op];omega;rw[q];omega
def xfy(N M:Int)(S T:Zl)(h:Pl cv tv lo B b r s k w)(L:r.cnt<=29)(p:s.shots<999):
  Calls prog 21 #[zo b,zo B,zdc 7 N M S T] w (zcu cv tv lo B b r s w):=by
 have q:Hid (Nw w (w.alloc (.cells #[zi 7,zi N,zi M,zs S,zs T] 47))):=Nw.alloc _ _;have i:=zl (h.nw q.o);clear h;unfold zdc;go_enter func21.1,Tryz.ntmps21
 go_wp2_with fail
 generalize w.alloc (.cells #[zi 7,zi N,zi M,zs S,zs T] 47)=w1 at*;refine(size_pl i.o).mono ?_;rintro e C ⟨rfl,c⟩;have d:=zl (i.o.nw c);have t:Hid (Nw w C):=q.o.trans c;clear c;by_cases G:10000<za9 k.seen
 ·have H:(10000:Int)<(za9 k.seen:Int):=by omega
  have l:Hid (zcu cv tv lo B b r s w (.returned (.bool true)) C):=⟨rfl,(t.o.mono fun _ x=>x.elim),r,s,k,d.o,by omega,by omega,by omega⟩
  go_wp2_with fail
  go_ret
  exact l.o
 have H:¬(10000:Int)<(za9 k.seen:Int):=by omega
 have o:k.recs<=1000000:=by have:=i.o.bok.recs;omega
 go_wp2_with fail
 refine(shot_pl d.o (by omega) p (by omega)).mono ?_;rintro e O ⟨rfl,I,J,n,g,z,v,y,_⟩;have T2:=zl n;have F:=zl (jt.bok d.o.st n d.o.bk);have m:=zl g;have E:=zl z;have D:=zl v;have j:=zl y;clear n g z v y
 go_wp2_with fail
 refine(zil b k o _ F.o).mono ?_;rintro e K ⟨rfl,a,f⟩;have l:Hid (zcu cv tv lo B b r s w (.returned (.bool true)) K):=⟨rfl,((t.o.mono fun _ x=>x.elim).trans (d.o.old T2.o a)),I,J,k.synced,d.o.to T2.o a f m.o E.o D.o,j.o.1,j.o.2.1,j.o.2.2⟩;clear a f
 go_wp2_with fail
 go_ret
 exact l.o
def xfw(a N M:Int)(S T:Zl)(h:Pl cv tv lo B b r s k w)(o:r.cnt<=29)(e:¬a=1)(f:¬a=2)(g:¬a=3)(i:¬a=4)(j:¬a=5)(l:¬a=6)(m:¬a=7)(n:¬a=8):
  Calls prog 21 #[zo b,zo B,zdc a N M S T] w (zcu cv tv lo B b r s w):=by
 have c:Hid (Nw w (w.alloc (.cells #[zi a,zi N,zi M,zs S,zs T] 47))):=Nw.alloc _ _;have d:=zl (h.nw c.o);clear h;unfold zdc;go_enter func21.1,Tryz.ntmps21
 go_wp2_with fail
 generalize w.alloc (.cells #[zi a,zi N,zi M,zs S,zs T] 47)=w1 at*
 go_ret
 exact⟨rfl,(c.o.mono fun _ x=>x.elim),r,s,k,d.o,by omega,by omega,by omega⟩
def xjr(N M:Int)(S T:Zl)(h:Pl cv tv lo B b r s k w)(hc:r.cnt<=29):
  Calls prog 21 #[zo b,zo B,zdc 3 N M S T] w (zcu cv tv lo B b r s w):=by
 have N0:Hid (Nw w (w.alloc (.cells #[zi 3,zi N,zi M,zs S,zs T] 47))):=Nw.alloc _ _;have X0:Hid (xx (w.alloc (.cells #[zi 3,zi N,zi M,zs S,zs T] 47)) w.heap.size #[zi 3,zi N,zi M,zs S,zs T] 47):=xx.new _ _ _;have m:=zl (h.nw N0.o);clear h;unfold zdc;go_enter func21.1,Tryz.ntmps21;have a3:(w.alloc (.cells #[zi 3,zi N,zi M,zs S,zs T] 47)).cell? (zq w.heap.size 3)=some (zs S):=X0.o.cell 3 rfl
 go_wp2_with fail
 generalize w.alloc (.cells #[zi 3,zi N,zi M,zs S,zs T] 47)=w1 at*;refine(zti B r S _ m.o.st (fun t ht=>by rw[m.o.sn]at ht;cases ht;exact m.o.inv.P20)).mono ?_;rintro e G ⟨rfl,z⟩;have U:=zl (m.o.nw z);have N2:Hid (Nw w G):=N0.o.trans z;have X2:=zl (X0.o.nw z);have Q:Hid (∀w',Nw G w'->zcu cv tv lo B b r s w (.returned (.bool true)) w'):=fun w' y=>⟨rfl,((N2.o.trans y).mono fun _ x=>x.elim),r,s,k,U.o.nw y,by omega,by omega,by omega⟩;have W:Hid (r.gets S=if Ve S=false then(([],6):Zl×Int)else match Zh s.now S with
  |none=>([],8)
  |some v=>(v,0)):=znt m.o.sn S
 clear a3 z;have b3:G.cell? (zq w.heap.size 3)=some (zs S):=X2.o.cell 3 rfl;by_cases c:Ve S=false
 ·have e1:r.gets S=([],6):=by rw[W.o,if_pos c]
  rw[e1];have bc:=xo [];have d:¬(0<S.length/\S.length<=16):=by simpa[Ve]using c
  by_cases hl:S.length<1
  ·have i1:((S.length:Nat):Int)<1:=by omega
   clear e1 c d
   go_wp2_with fail
   go_ret
   exact Q.o _ (xb.refl _ _)
  have i1:¬((S.length:Nat):Int)<1:=by omega
  have i2:16<((S.length:Nat):Int):=by omega
  clear e1 c d
  go_wp2_with fail
  go_ret
  exact Q.o _ (xb.refl _ _)
 have d:0<S.length/\S.length<=16:=by simpa[Ve]using c
 have i1:¬((S.length:Nat):Int)<1:=by omega
 have i2:¬16<((S.length:Nat):Int):=by omega
 obtain⟨p,g,bf,O,be,D⟩:=id U.o.bk.seen;have Z:=(U.o.bk.blk.cell 1 rfl).trans (congrArg some O);have V:=zl Z;have HR:=zl D;have a:=zl m.o.bok.seen;have bh:k.seen.length<=1000:=by rw[a.o,zlf];exact zif m.o.inv
 have f:Hid (∀j (h:j<k.seen.length),k.seen[j].1=S->r.gets S=(k.seen[j].2,0)):=fun j h e=>by
  have hg:=zpf m.o.inv m.o.sn;have R:=a.o;have h':j<(srt s.now).length:=by rw[<-R];exact h
  have:=hg j h';have e2:(srt s.now)[j]=k.seen[j]:=by simp only[R]
  rw[e2,e]at this;exact this
 have E:Hid ((∀j (h:j<k.seen.length),k.seen[j].1≠S)->r.gets S=([],8)):=fun C=>by
  have R:=a.o;have:Zh s.now S=none:=by
   rw[<-zcv,<-R];refine zei fun hm=>?_;obtain⟨q,hq,e⟩:=qp.1 hm;obtain⟨j,hj,rfl⟩:=List.mem_iff_getElem.1 hq;exact C j hj e
  rw[W.o,if_neg c,this]
 obtain⟨gv,ge,F⟩:∃gv ge,r.gets S=(gv,ge):=⟨_,_,rfl⟩;have H:=zl F;rw[F];clear c D O F W d a Z;generalize k.seen=l at*
 go_wp2_with fail
 go_loopw [9] (fun i wr=>∃j:Nat,j<=l.length/\i=zi j/\Nw G wr/\∀n (h:n<l.length),n<j->l[n].1≠S) (fun i _=>(l.length-intOf i).toNat)
 case atStart=>exact⟨0,by omega,rfl,xb.refl _ _,fun n h y=>absurd y (Wd _)⟩
 case round=>
  obtain⟨j,hj,rfl,y,C⟩:=hrel;have K:=zl y;have HJ:=zl C;have Z:=y.cell id V.o;clear y C;by_cases o:j<l.length
  ·have i3:(j:Int)<(l.length:Nat):=by omega
   have i0:(0:Int)<=(j:Int):=by omega
   have bd:l≠[]:=by intro e;rw[e]at o;cases o
   obtain⟨rfl,hr⟩:=HR.o bd;have h1:=(hr.but K.o id).cell j o;have s0:=h1.1;have s1:=h1.2;have s2:wr.cell? (zq w.heap.size 3)=some (zs S):=(X2.o.nw K.o).cell 3 rfl;have HK:Hid (l[j].1=S->(gv,ge)=(l[j].2,(0:Int))):=fun e=>H.o.symm.trans (f.o j o e);have I:Hid (l[j].1≠S->∀n (h:n<l.length),n<j+1->l[n].1≠S):=fun e n h y=>by
    by_cases e2:n=j;subst e2;exact e;exact HJ.o n h (by omega)
   generalize l[j].1=qk at*;generalize l[j].2=qv at*;clear hr h1 E f;by_cases L:qk=S
   ·have bb:=HK.o L
    cases bb;subst L
    go_wp2_with fail
    go_quiet (fail)
    have Y:Hid (Nw G (wr.drewN nq)):=K.o.trans (xb.refl _ _).drewN'
    go_wp2_with fail
    go_ret
    exact Q.o _ Y.o
   have bg:((st qk).toList==(st S).toList)=false:=by rw[xo,xo];simpa using L
   have J:=I.o L;have X:=zl J;clear J I HK L
   go_wp2_with fail
   go_quiet (fail)
   have Y:Hid (Nw G (wr.drewN nq)):=K.o.trans (xb.refl _ _).drewN'
   go_wp2_with fail
   go_roundw
   case rel=>exact⟨j+1,by omega,by go_num,Y.o,X.o⟩
   case measure=>simp[intOf];omega
  obtain rfl:j=l.length:=by omega
  have i3:¬(l.length:Int)<(l.length:Nat):=by omega
  have ba:=H.o.symm.trans (E.o fun n h=>HJ.o n h h);cases ba;have bc:=xo [];clear E f HR
  go_wp2_with fail
  go_ret
  exact Q.o _ K.o
noncomputable def c33:=Qf Tryz.f21.body
noncomputable def xxr:=Qa c33
noncomputable def xxs:=Qa (Qa (Qb c33))
noncomputable def y33:=Qb (Qb c33)
noncomputable def k33:=Qk (Qb (Qa (Qb c33)))
noncomputable def xxt:=Qa k33
noncomputable def xwu:=Qc (Qb k33)
noncomputable def xra:=Qd (Qb k33)
noncomputable def xxu:=Qa xra
noncomputable def xwv:=Qc (Qb xra)
noncomputable def xrb:=Qd (Qb xra)
noncomputable def xxv:=Qa xrb
noncomputable def xww:=Qc (Qb xrb)
noncomputable def xrc:=Qd (Qb xrb)
noncomputable def xxw:=Qa xrc
noncomputable def xwx:=Qc (Qb xrc)
noncomputable def xrd:=Qd (Qb xrc)
noncomputable def xxx:=Qa xrd
noncomputable def xwy:=Qc (Qb xrd)
noncomputable def xre:=Qd (Qb xrd)
noncomputable def xxy:=Qa xre
noncomputable def xwz:=Qc (Qb xre)
noncomputable def xrf:=Qd (Qb xre)
noncomputable def xxz:=Qa xrf
noncomputable def xx0:=Qa (Qc (Qb xrf))
noncomputable def z33:=Qb (Qb (Qc (Qb xrf)))
noncomputable def r33a:=Qa (Qb (Qc (Qb (Qd (Qb (Qd (Qb (Qd (Qb (Qd (Qb (Qd (Qb (Qd (Qb (Qk (Qb (Qa (Qb (Qf Tryz.f21.body))))))))))))))))))))
def xqo:Tryz.f21.body=some (.seq xxr (.seq (.seq xxs (.block 0 (.seq xxt (.cond (.tmp 19) xwu (.seq xxu (.cond (.tmp 26) xwv (.seq xxv (.cond (.tmp 91) xww (.seq xxw (.cond (.tmp 100) xwx (.seq xxx (.cond (.tmp 108) xwy (.seq xxy (.cond (.tmp 137) xwz (.seq xxz (.cond (.tmp 149) (.seq xx0 (.seq r33a z33)) .skip)))))))))))))))) y33)):=by kernel_rfl
def V2:¬Mc Tryz.prog 21:=zuy (by decide) (by decide) Tryz.func21
def Vz{Q:Exit->Act->Zy->Prop}(h:ReQ Q){id:Nat}:ReQ (fun e a' w'=>match e with
  | .exit j=>if j=id then Q .normal a' w' else Q (.exit j) a' w'
  |e=>Q e a' w'):=by
 intro e a w t d;cases e with
 |exit j=>
  dsimp only;split;exact h _ _ _ _ _;exact h _ _ _ _ _
 |normal=>exact h _ _ _ _ _
 |goto l=>exact h _ _ _ _ _
 |ret=>exact h _ _ _ _ _
 |panic ch=>exact h _ _ _ _ _
 |outgrown=>exact h _ _ _ _ _
def xbz{w w':Zy}{e:Ending}{t:Nat->Question->Nat}{d:Nat}:zcu cv tv lo B b r s w e (re w' t d)↔zcu cv tv lo B b r s w e w':=by
 have n1:Nw w' (re w' t d):=Nw.toRe (xb.refl _ _) t d;have k:Nw (re w' t d) w':=⟨rfl,rfl,ze _,fun _ _ _=>rfl⟩;constructor;rintro⟨a,c,i,j,h,f,g⟩;exact⟨a,xb.re c,i,j,h,f.nw k,g⟩;rintro⟨a,c,i,j,h,f,g⟩;exact⟨a,c.trans (n1.mono fun _ x=>x.elim),i,j,h,f.nw n1,g⟩
def Wy.anySn(I:Wy r s)(x:Option Jo):Wy {r with sn:=x} s:=by
 obtain⟨a,b,q,L,D⟩:=I.dsk;exact⟨⟨a,b,q,L,⟨D.ok,D.cnt,D.tag,D.ep,D.same,D.base,D.last,D.named⟩⟩,I.mark,I.gd,I.each,I.nx,I.room,I.lim,I.fus,I.lst,I.cnt,I.P,I.P20,I.okl,I.len,I.ep,I.op,I.named,I.sh0⟩
def Wy.shut_own{B:Nat}{x:Nat}(hx:r.shut.own B x):r.own B x:=by
 rcases hx with e|e|⟨t,a,_⟩;exact .inl e;exact .inr (.inl e);cases a
def xfx(N M:Int)(S T:Zl)(h:Pl cv tv lo B b r s k w)(hop:r.op<999):
  CC Tryz.prog 21 #[zo b,zo B,zdc 8 N M S T] w (zcu cv tv lo B b r s w):=by
 have hQ:ReQ (zcy Tryz.prog funcs Tryz.f21 (zcu cv tv lo B b r s w)):=zd6 fun e w' t d=>xbz;refine CC.of_postX qfits V2 (qplain rfl Tryz.func21 rfl).1 Tryz.func21 xqo ?_;rw[show Tryz.f21.ntmps=171 from rfl];generalize hPX:zcy Tryz.prog funcs Tryz.f21 (zcu cv tv lo B b r s w)=PX at hQ;unfold zdc;simp only[jg,zh,jn,Nat.reduceAdd,Nat.reduceSub,qw,qx,Z7,Zi,jk,jc];refine goq V2 hQ fun w1 b6 bq ba br=>?_;have N1:Hid (Nw w (w1.alloc (.cells #[zi 8,zi N,zi M,zs S,zs T] 47))):=(ji bq).trans (Nw.alloc _ _);have X1:Hid (xx (w1.alloc (.cells #[zi 8,zi N,zi M,zs S,zs T] 47)) w1.heap.size #[zi 8,zi N,zi M,zs S,zs T] 47):=xx.new _ _ _;have H0:=zl h;have m:=zl hQ;have bp:=zl hPX;clear h hQ hPX br
 conv=>arg 2;whnf
 go_wp2_with fail
 refine ba.o _ _ ?_;clear ba;generalize w1.alloc (.cells #[zi 8,zi N,zi M,zs S,zs T] 47)=wA at*;refine Xn.seq qfits V2 trivial ?_;refine goq V2 m.o.thenX fun w2 b7 O bb bs=>?_;have c0:w2.cell? (zq w1.heap.size 0)=some (zi 8):=(X1.o.nw (ji O)).cell 0 rfl;have N2:Hid (Nw w w2):=N1.o.trans (ji O);clear bs
 conv=>arg 2;whnf
 go_wp2_with fail
 refine bb.o _ _ ?_;clear bb c0;refine Xn.block qfits V2 ?_;refine goq V2 (Vz m.o.thenX) fun v0 bv Q o bd=>?_;have M0:Hid (Nw w v0):=N2.o.trans (ji Q);clear bd
 conv=>arg 2;whnf
 go_wp2_with fail
 refine o.o _ _ ?_;clear o;refine Xn.cond qfits V2 rfl ?_;simp only[xu,if_false];refine goq V2 (Vz m.o.thenX) fun v1 bw U p be=>?_;have M1:Hid (Nw w v1):=M0.o.trans (ji U);clear be
 conv=>arg 2;whnf
 go_wp2_with fail
 refine p.o _ _ ?_;clear p;refine Xn.cond qfits V2 rfl ?_;simp only[xu,if_false];refine goq V2 (Vz m.o.thenX) fun v2 bx V q bf=>?_;have M2:Hid (Nw w v2):=M1.o.trans (ji V);clear bf
 conv=>arg 2;whnf
 go_wp2_with fail
 refine q.o _ _ ?_;clear q;refine Xn.cond qfits V2 rfl ?_;simp only[xu,if_false];refine goq V2 (Vz m.o.thenX) fun v3 bz W y bg=>?_;have M3:Hid (Nw w v3):=M2.o.trans (ji W);clear bg
 conv=>arg 2;whnf
 go_wp2_with fail
 refine y.o _ _ ?_;clear y;refine Xn.cond qfits V2 rfl ?_;simp only[xu,if_false];refine goq V2 (Vz m.o.thenX) fun v4 b0 X z bh=>?_;have M4:Hid (Nw w v4):=M3.o.trans (ji X);clear bh
 conv=>arg 2;whnf
 go_wp2_with fail
 refine z.o _ _ ?_;clear z;refine Xn.cond qfits V2 rfl ?_;simp only[xu,if_false];refine goq V2 (Vz m.o.thenX) fun v5 b1 Y C bi=>?_;have M5:Hid (Nw w v5):=M4.o.trans (ji Y);clear bi
 conv=>arg 2;whnf
 go_wp2_with fail
 refine C.o _ _ ?_;clear C;refine Xn.cond qfits V2 rfl ?_;simp only[xu,if_false];refine goq V2 (Vz m.o.thenX) fun v6 b2 Z D bj=>?_;have M6:Hid (Nw w v6):=M5.o.trans (ji Z);clear bj
 conv=>arg 2;whnf
 go_wp2_with fail
 refine D.o _ _ ?_;clear D;refine Xn.cond qfits V2 rfl ?_;simp only[if_true];refine goq V2 (Vz m.o.thenX) fun v7 b3 n E bl=>?_;have f:=zl (H0.o.nw (M6.o.trans (ji n)));have M7:Hid (Nw w v7):=M6.o.trans (ji n);clear bl
 conv=>arg 2;whnf
 go_wp2_with fail
 refine(zob B r _ f.o.st).mono ?_;rintro e w8 ⟨rfl,H⟩;have T8:=zl H;have K8:=zl (jt.bok f.o.st H f.o.bk);rw[show(if r.sn.isSome then(0:Int)else 5)=0 by rw[f.o.sn];rfl];clear H
 go_wp2_with fail
 refine E.o _ _ ?_;clear E;have G8:=zl (f.o.glb.but T8.o.but fun x hx=>by have:=f.o.own x hx;have:=f.o.l4;omega);have l:CC Tryz.prog 16 #[zo B] w8 (zrs B r.shut w8):=by
  refine zrt (cv:=cv) (tv:=tv) T8.o.at_ rfl hop (zac.of (s:=s) (f.o.inv.anySn none) (.inr rfl) fun x hx=>by have:=f.o.own x (Wy.shut_own hx);have:=f.o.l4;omega) G8.o (fun i=>by have:=f.o.inv.fby_len i;show(qu r.d.L i).length<=_;omega) (fun mp=>?_);obtain⟨F,L,R⟩:=f.o.inv.reopen mp;have hl:=R.lst;exact⟨F,L,R.look,by show(Xi F r.d).1=true;rw[R.mend],(fun ht=>absurd (R.torn.symm.trans ht) (by simp)),by omega,by omega⟩
 refine Xn.seq qfits V2 trivial ?_
 conv=>arg 3;whnf
 refine Xn.region_lit qfits V2 ?_;refine Jc.value (val:=zo B) (w':=w8) qfits V2 rfl (fun t d=>⟨t,d,by show(execOp _ _).run prog _=_;simp[execOp,go_sem]⟩) ?_;refine Jc.call qfits V2 rfl rfl (fun v=>by show(execOp _ _).run prog _=_;simp[execOp,go_sem,resolve,Act.put]) (qplain rfl Tryz.func16 rfl) l ?_ ?_;rotate_left;rintro ch w9 ⟨he,_⟩;cases he;rintro v w9 ⟨he,mp,F,L,J,bn,I⟩;cases he;obtain⟨b8,L',R⟩:=f.o.inv.reopen mp;have bt:=bn.symm.trans R.look;cases bt;have T9:Hid (jt B r v7 (Wp r F J L) w9):=T8.o.trans I;have K9:=zl (jt.bok T8.o.at_ I K8.o);have RR:=zl R;clear bn I R l;refine mvq (val:=zi 0) V2 ⟨rfl,rfl⟩ ?_;refine Jc.nil qfits V2 ?_;refine lastq V2 (Vz m.o.thenX) fun c bu j bc=>?_;simp only[Act.put,xv,Zz,Z9];have a:Hid (W6 c b k):=⟨K9.o.blk.nw (ji j),K9.o.kept.but (ji j) (fun _ _ _=>id),K9.o.seen.but (ji j) (fun _ _ _=>id)⟩;have K:=zl (T9.o.trans (jt.nw T9.o.at_ (ji j)));have d0:c.cell? (zq b 0)=some k.kv:=a.o.blk.cell 0 rfl;have d1:c.cell? (zq b 1)=some k.sv:=a.o.blk.cell 1 rfl;have d2:c.cell? (zq b 2)=some (zi k.pend):=a.o.blk.cell 2 rfl;have f1:=a.o.blk.frz 1;have f2:=a.o.blk.frz 2;have HF:Hid (zcu cv tv lo B b r s w (.returned (.bool true)) ((c.setCell (zq b 1) k.kv).setCell (zq b 2) (zi 0))):=by
  have hb:xb (·=b) c ((c.setCell (zq b 1) k.kv).setCell (zq b 2) (zi 0)):=(xb.set c (zq b 1) _).trans (xb.set _ (zq b 2) _);have hk:W6 ((c.setCell (zq b 1) k.kv).setCell (zq b 2) (zi 0)) b {k with sv:=k.kv,seen:=k.kept,pend:=0}:=
   ⟨(a.o.blk.set 1 k.kv).set 2 _,a.o.kept.but hb (fun g G hc=>a.o.blk.row_ne (by decide) g G hc),a.o.kept.but hb (fun g G hc=>a.o.blk.row_ne (by decide) g G hc)⟩
  refine⟨rfl,(M7.o.mono fun _ x=>x.elim).trans (f.o.old K.o hb),Wp r F J L,V4 J F L,_,f.o.to K.o hb hk ?_ (RR.o.inv J hop) (xge f.o.bok RR.o rfl rfl rfl rfl rfl), ?_, ?_, ?_⟩;show some (V4 J (Xi F r.d).2.1 L)=_;rw[RR.o.mend];show F.cnt<=_;rw[RR.o.cnt];omega;exact ze _;have:=f.o.inv.sh0;show(0:Int)<=_;omega
 obtain⟨p0,g0,b4,bm,_,_⟩:=id a.o.kept;obtain⟨p1,g1,b5,bo,_,_⟩:=id a.o.seen;rw[bm]at d0 HF;rw[bo]at d1;clear bm bo
 conv=>arg 2;whnf
 go_wp2_with fail
 refine bc.o .ret _ _ ?_;show PX .ret _ _;rw[<-bp.o];refine⟨rfl,.bool true,fun t d=>⟨t,d, ?_⟩,HF.o⟩;show(results Tryz.f21 _).run prog _=_;simp[results,Tryz.results21,go_sem]
end
end P
namespace P
open A.Tryq Go.RowKit A
variable [pn:A.Pn]
def xjp{cv tv:Zv}{lo B b:Nat}{r:Sr}{s:Jo}{k:Bok}{w:Zy}(c N M:Int)(S T:Zl)(h:Pl cv tv lo B b r s k w)(f:r.cnt<=29)(hop:r.op<999)(l:s.shots<999):
  CC Tryz.prog 21 #[zo b,zo B,zdc c N M S T] w (zcu cv tv lo B b r s w):=by
 have a:(∀w,Pl cv tv lo B b r s k w->Calls prog 21 #[zo b,zo B,zdc c N M S T] w (zcu cv tv lo B b r s w))->CC Tryz.prog 21 #[zo b,zo B,zdc c N M S T] w (zcu cv tv lo B b r s w):=fun x=>
  ccq rfl (by decide) Tryz.func21 rfl (fun e v t d=>xbz.1) (fun v y=>by cases y.1) fun t d=>(x _ (h.nw (Nw.toRe (xb.refl _ _) t d))).mono fun e v ⟨i,g,j⟩=>⟨i,⟨g.os,g.output,g.size,g.block⟩,j⟩
 by_cases i:c=1;subst i;exact a fun w h=>xjs N M S T h f;by_cases g:c=2;subst g;exact a fun w h=>xjq N M S T h f;by_cases j:c=3;subst j;exact a fun w h=>xjr N M S T h f;by_cases m:c=4;subst m;exact a fun w h=>xfv N M S T h f;by_cases n:c=5;subst n;exact a fun w h=>xfz N M S T h f;by_cases o:c=6;subst o;exact a fun w h=>xjt N M S T h f;by_cases p:c=7;subst p;exact a fun w h=>xfy N M S T h f l;by_cases q:c=8;subst q;exact xfx N M S T h hop;exact a fun w h=>xfw c N M S T h f i g j m n o p q
end P
namespace P
open A.Tryq Go.RowKit A
variable [pn:A.Pn]
attribute [local go_sem] xe zv
section
variable {cv tv:Zv} {w w':Zy} {t:Nat→Question→Nat} {lo B b:Nat}
structure Ac where
 kd:Int
 N:Int
 M:Int
 S:Zl
 T:Zl
def Ac.At(w:Zy)(g o:Nat)(c:Ac):Prop:=w.cell? (zq g o)=some (zi c.kd)/\w.cell? (zq g (o+1))=some (zi c.N)/\w.cell? (zq g (o+2))=some (zi c.M)/\w.cell? (zq g (o+3))=some (zs c.S)/\w.cell? (zq g (o+4))=some (zs c.T)
def AL(lo:Nat)(w:Zy)(v:Zv)(D:List Ac):Prop:=∃a cap,v= .slice a D.length cap/\D.length<=maxLen/\∀i (h:i<D.length),∃g off,a=some ⟨g,off,none⟩/\g<lo/\Ac.At w g (off+i*5) D[i]
def AL.but{lo:Nat}{v:Zv}{D:List Ac}(h:AL lo w v D)(b:xb (fun x=>lo<=x) w w'):AL lo w' v D:=by
 obtain⟨a,d,p,q,r⟩:=h;refine⟨a,d,p,q,fun i s=>?_⟩;obtain⟨g,e,n,o,f,j,k,l,m⟩:=r i s;have c:¬lo<=g:=by omega
 exact⟨g,e,n,o,b.cell c f,b.cell c j,b.cell c k,b.cell c l,b.cell c m⟩
noncomputable def c10:=Qf Tryz.f10.body
noncomputable def xxm:=Qa c10
noncomputable def xxn:=Qa (Qa (Qb c10))
noncomputable def xv5:=Qa (Ql (Qk (Qb (Qa (Qb c10)))))
noncomputable def xv6:=Qb (Qk (Qa (Qb (Ql (Qk (Qb (Qa (Qb c10))))))))
noncomputable def xo0:=Qb (Qb (Ql (Qk (Qb (Qa (Qb c10))))))
noncomputable def y10:=Qb (Qb c10)
noncomputable def r10a:=Qa (Qk (Qa (Qb (Ql (Qk (Qb (Qa (Qb (Qf Tryz.f10.body)))))))))
def xqm:Tryz.f10.body=some (.seq xxm (.seq (.seq xxn (.block 0 (.loop (.seq xv5 (.seq (.block 1 (.seq r10a xv6)) xo0))))) y10)):=by kernel_rfl
def zag:¬Mc Tryz.prog 10:=zuy (by decide) (by decide) Tryz.func10
def znb(b B:Nat)(v:Zv)(j:Nat)(a:Act):Prop:=∃x3 x4 x5 x6 x8 x9 x10 x11 x12 x13 x14 x15 x16 x17 x18 x19 x20 x21 x22 x23 x24 x25 x26 x27 x28 x29 x30 x31 x32 x33 x34 x35 x36 x37 x38 x39 x40 x41 x42 x43 x44 x45,a=⟨#[zo b,zo B,v,x3,x4,x5,x6,zi j,x8,x9,x10,x11,x12,x13,x14,x15,x16,x17,x18,x19,x20,x21,x22,x23,x24,x25,x26,x27,x28,x29,x30,x31,x32,x33,x34,x35,x36,x37,x38,x39,x40,x41,x42,x43,x44,x45],[]⟩
structure Pd(cv tv:Zv)(lo B b:Nat)(v:Zv)(D:List Ac)(w0:Zy)(j:Nat)(w:Zy):Prop where
 pl:∃r s k,Pl cv tv lo B b r s k w/\r.cnt<=31/\r.op<=2+j/\s.shots<=(j:Int)
 old:xb (fun x=>lo<=x) w0 w
 j1:j<=D.length
 j2:j<=300
 al:AL lo w v D
def Pd.nw{v:Zv}{D:List Ac}{w0:Zy}{j:Nat}(h:Pd cv tv lo B b v D w0 j w)(n:Nw w w'):Pd cv tv lo B b v D w0 j w':=by
 obtain⟨r,s,k,a,c⟩:=h.pl;exact⟨⟨r,s,k,a.nw n,c⟩,h.old.trans (n.mono fun _ x=>x.elim),h.j1,h.j2,h.al.but (n.mono fun _ x=>x.elim)⟩
def xd5(cv tv:Zv)(lo B b:Nat)(w0:Zy)(e:Ending)(w:Zy):Prop:=e= .returned (.bool true)/\xb (fun x=>lo<=x) w0 w/\∃r s k,Pl cv tv lo B b r s k w/\r.cnt<=31/\r.op<=302/\s.shots<=300
def xli{e:Ending}{d:Nat}:xd5 cv tv lo B b w e (re w' t d)↔xd5 cv tv lo B b w e w':=by
 have n1:Nw w' (re w' t d):=Nw.toRe (xb.refl _ _) t d;have k:Nw (re w' t d) w':=⟨rfl,rfl,ze _,fun _ _ _=>rfl⟩;constructor;rintro⟨a,c,i,j,h,f,g⟩;exact⟨a,xb.re c,i,j,h,f.nw k,g⟩;rintro⟨a,c,i,j,h,f,g⟩;exact⟨a,c.trans (n1.mono fun _ x=>x.elim),i,j,h,f.nw n1,g⟩
section
variable {cv tv:Value} {lo B b j:Nat} {v:Value} {D:List Ac} {w0 w:World} {a:Act} {Po:Exit->Act->World->Prop}
def xnw(y:znb b B v j a)(h:Pd cv tv lo B b v D w0 j w)
  (n:Hid (∀a',znb b B v j a'->j<D.length->j<300->(∀r s k,Pl cv tv lo B b r s k w->r.cnt<=29)->Po .normal a' w))(c:Hid (∀a',znb b B v j a'->Po (.exit 0) a' w)):xv5.wp prog Po a w:=by
 obtain⟨x3,x4,x5,x6,x8,x9,K,L,M,N,O,Q,R,S,T,U,V,W,X,Y,Z,ba,bb,bc,bd,be,bf,bg,bh,bi,bj,bl,bm,bn,bo,bp,bq,br,bs,bt,bu,bv,rfl⟩:=y;obtain⟨r,s,k,o,E,F,G⟩:=h.pl;obtain⟨ad,q,rfl,f,_⟩:=h.al;have p:w.cell? (zq b 4)=some (zi k.recs):=o.bk.blk.cell 4 rfl;have m:Hid (∀g l e,Pl cv tv lo B b g l e w->g.cnt=k.recs):=fun g l e d=>by
  have i:w.cell? (zq b 4)=some (zi e.recs):=d.bk.blk.cell 4 rfl;rw[p]at i;have e2:(k.recs:Int)=(e.recs:Int):=by injection i with i;injection i
  have:=d.bok.recs;omega
 have z:=h.j1;have C:=h.j2;unfold maxLen at f;clear h o
 conv=>arg 2;whnf
 by_cases t:j<D.length
 ·have H:(j:Int)<(D.length:Nat):=by omega
  by_cases x:j<300
  ·have I:(j:Int)<300:=by omega
   by_cases h3:k.recs<30
   ·have J:(k.recs:Int)<30:=by omega
    go_wp2_with fail
    exact n.o _ ⟨_,_,_,_,_,_,_,_,_,_,_,_,_,_,_,_,_,_,_,_,_,_,_,_,_,_,_,_,_,_,_,_,_,_,_,_,_,_,_,_,_,_,rfl⟩ t x fun g l e d=>by have:=m.o g l e d;omega
   have J:¬(k.recs:Int)<30:=by omega
   go_wp2_with fail
   exact c.o _ ⟨_,_,_,_,_,_,_,_,_,_,_,_,_,_,_,_,_,_,_,_,_,_,_,_,_,_,_,_,_,_,_,_,_,_,_,_,_,_,_,_,_,_,rfl⟩
  have I:¬(j:Int)<300:=by omega
  go_wp2_with fail
  exact c.o _ ⟨_,_,_,_,_,_,_,_,_,_,_,_,_,_,_,_,_,_,_,_,_,_,_,_,_,_,_,_,_,_,_,_,_,_,_,_,_,_,_,_,_,_,rfl⟩
 have H:¬(j:Int)<(D.length:Nat):=by omega
 go_wp2_with fail
 exact c.o _ ⟨_,_,_,_,_,_,_,_,_,_,_,_,_,_,_,_,_,_,_,_,_,_,_,_,_,_,_,_,_,_,_,_,_,_,_,_,_,_,_,_,_,_,rfl⟩
def xjm{r:Sr}{s:Jo}{k:Bok}{x8:Zv}(l:znb b B v j a)(f:a.tmps[8]?=some (.bool true))(h:Pl cv tv lo B b r s k w)(i:Hid (∀a',znb b B v j a'->Po .normal a' w)):xv6.wp prog Po a w:=by
 obtain⟨x3,x4,x5,x6,x8,x9,m,n,o,p,q,t,x,y,z,C,D,E,F,G,H,I,J,K,L,M,N,O,Q,R,S,T,U,V,W,X,Y,Z,ba,bb,bc,bd,rfl⟩:=l;simp only[q8,Xb,Xl,zp]at f;subst f;have g:=zl h;have c4:w.cell? (zq b 4)=some (zi k.recs):=h.bk.blk.cell 4 rfl;have c:(r.cnt:Int)=(k.recs:Int):=by have:=h.bok.recs;omega
 have d:=zl c;clear h c
 conv=>arg 2;whnf
 go_wp2_with fail
 refine(zvr B r _ g.o.st).mono ?_;rintro e w1 ⟨rfl,rfl⟩;rw[d.o]
 go_wp2_with fail
 exact i.o _ ⟨_,_,_,_,_,_,_,_,_,_,_,_,_,_,_,_,_,_,_,_,_,_,_,_,_,_,_,_,_,_,_,_,_,_,_,_,_,_,_,_,_,_,rfl⟩
def xnv(d:znb b B v j a)(V:j<=300)(c:Hid (∀a',znb b B v (j+1) a'->Po .normal a' w)):xo0.wp prog Po a w:=by
 obtain⟨X,Y,Z,x6,x8,x9,e,f,g,h,i,k,l,m,n,o,p,q,r,s,t,x,y,z,C,D,E,F,G,H,I,J,K,L,M,N,O,Q,R,S,T,U,rfl⟩:=d;have W:IntKind.i64.wrap ((j:Int)+1)=(j:Int)+1:=by rw[xn];omega
 conv=>arg 2;whnf
 go_wp2_with fail
 exact c.o _ ⟨_,_,_,_,_,_,_,_,_,_,_,_,_,_,_,_,_,_,_,_,_,_,_,_,_,_,_,_,_,_,_,_,_,_,_,_,_,_,_,_,_,_,rfl⟩
end
def xgy{Q:Exit->Act->Zy->Prop}(h:ReQ Q){I:Act->Zy->Prop}{m:Act->Zy->Nat}{a0:Act}{w0:Zy}(b:∀a w t d,I a (re w t d)↔I a w)(c:∀a w t d,m a (re w t d)=m a w):ReQ (fun e a' w'=>match e with
   | .normal=>I a' w'/\m a' w'<m a0 w0
   |e=>Q e a' w'):=by
 intro e a w t d;cases e with
 |normal=>show(I a (re w t d)/\m a (re w t d)<m a0 w0)↔(I a w/\m a w<m a0 w0);rw[b,c]
 |exit id=>exact h _ _ _ _ _
 |goto l=>exact h _ _ _ _ _
 |ret=>exact h _ _ _ _ _
 |panic ch=>exact h _ _ _ _ _
 |outgrown=>exact h _ _ _ _ _
def xfb(a:Act):Nat:=301-(intOf (a.tmps[7]?.getD undef)).toNat
def xci{b B:Nat}{v:Zv}{j:Nat}{a:Act}(h:znb b B v j a):xfb a=301-j:=by
 obtain⟨T,U,V,W,X,Y,c,d,e,f,g,i,k,l,m,n,o,p,q,r,s,t,w,x,y,z,C,D,E,F,G,H,I,J,K,L,M,N,O,Q,R,S,rfl⟩:=h;simp[xfb,intOf]
def xf0{v:Zv}{D:List Ac}{w:Zy}(h:Pd cv tv lo B b v D w 0 w):
  CC Tryz.prog 10 #[zo b,zo B,v] w (xd5 cv tv lo B b w):=by
 have hQ:ReQ (zcy Tryz.prog funcs Tryz.f10 (xd5 cv tv lo B b w)):=zd6 fun e w' t d=>xli;refine CC.of_postX qfits zag (qplain rfl Tryz.func10 rfl).1 Tryz.func10 xqm ?_;rw[show Tryz.f10.ntmps=46 from rfl];generalize hPX:zcy Tryz.prog funcs Tryz.f10 (xd5 cv tv lo B b w)=PX at hQ;have W:=zl hQ;have Y:=zl hPX;have H0:=zl h;clear h hQ hPX;simp only[jg,zh,jn,Nat.reduceAdd,Nat.reduceSub,qw,qx,Z7,Zi,jk,jc];refine goq zag W.o fun w1 cx ba F bj=>?_;have N1:=zl (ji ba);clear bj
 conv=>arg 2;whnf
 go_wp2_with fail
 refine F.o _ _ ?_;clear F;refine Xn.seq qfits zag trivial ?_;refine goq zag W.o.thenX fun w2 cy bb G bk=>?_;have H2:=zl (H0.o.nw (N1.o.trans (ji bb)));clear bk
 conv=>arg 2;whnf
 go_wp2_with fail
 refine G.o _ _ ?_;clear G;refine Xn.block qfits zag ?_;have bi:=Vz (W.o.thenX (P:=Tryz.prog) (fn:=10) (y:=y10)) (id:=0);refine Xn.loop qfits zag (by trivial) (fun a w'=>∃j,znb b B v j a/\Pd cv tv lo B b v D w j w') (fun a _=>xfb a) ?_ _ _ ⟨0,⟨_,_,_,_,_,_,_,_,_,_,_,_,_,_,_,_,_,_,_,_,_,_,_,_,_,_,_,_,_,_,_,_,_,_,_,_,_,_,_,_,_,_,rfl⟩,H2.o⟩;rintro a w3 ⟨j,hf,bn⟩;have hI:∀a w' t d,(∃j,znb b B v j a/\Pd cv tv lo B b v D w j (re w' t d))↔(∃j,znb b B v j a/\Pd cv tv lo B b v D w j w'):=fun a w' t d=>
  ⟨fun⟨j,Z,h2⟩=>⟨j,Z,h2.nw ⟨rfl,rfl,ze _,fun _ _ _=>rfl⟩⟩,fun⟨j,Z,h2⟩=>⟨j,Z,h2.nw (Nw.toRe (xb.refl _ _) t d)⟩⟩
 have p:=xgy bi (I:=fun a w'=>∃j,znb b B v j a/\Pd cv tv lo B b v D w j w') (m:=fun a _=>xfb a) (a0:=a) (w0:=w3) hI (fun _ _ _ _=>rfl);have cs:=xci hf;refine goq zag p fun i cz bc H J=>?_;have c:=bn.nw (ji bc);refine xnw hf c (fun a4 x L c8 bo=>H.o _ _ ?_) (fun a4 x=>J.o _ _ _ (by simp) ?_)
 ·
  obtain⟨r,s,k,Q,q,O,V⟩:=c.pl;have C:=bo r s k Q;have z:=fun kd N M S T=>xjp kd N M S T Q C (by omega) (by omega);obtain⟨ad,o,rfl,ct,bl⟩:=c.al;obtain⟨g,f,rfl,hg,c0,c1,c2,c3,c4⟩:=bl j L;refine Xn.seq qfits zag trivial (Xn.block qfits zag ?_);obtain⟨x3,x4,x5,x6,x8,x9,bp,bq,br,bs,bt,bu,bv,bw,bx,bz,b0,b1,b2,b3,b4,b5,b6,b7,b8,b9,ca,cb,cc,cd,ce,cf,cg,ci,cj,ck,cl,cm,cn,co,cp,cq,rfl⟩:=x;refine Xn.seq qfits zag trivial ?_
  conv=>arg 3;whnf
  refine Xn.region_lit qfits zag ?_;refine Jc.value (val:=zo b) (w':=i) qfits zag rfl (fun t d=>⟨t,d,by show(execOp _ _).run prog _=_;simp[execOp,go_sem]⟩) ?_;refine mvq (val:=zo B) zag ⟨rfl,rfl⟩ ?_;refine mvq (val:= .slice (some ⟨g,f,none⟩) D.length o) zag ⟨rfl,rfl⟩ ?_;refine mvq (val:=zi j) zag ⟨rfl,rfl⟩ ?_;have i1:(j:Int)<(D.length:Nat):=by omega
  have i0:¬(j:Int)<0:=by omega
  refine Jc.value (val:=zk g (f+j*5)) (w':=i) qfits zag rfl (fun t d=>⟨t,d,by show(execOp _ _).run prog _=_;simp[execOp,go_sem,Act.put,i0,i1,L]⟩) ?_;refine Jc.value (val:=zdc D[j].kd D[j].N D[j].M D[j].S D[j].T) (w':=i) qfits zag rfl (fun t d=>⟨t,d, ?_⟩) ?_
  ·have e0:(re i t d).cell? (zq g (f+j*5))=some (zi D[j].kd):=c0
   have e1:(re i t d).cell? (zq g (f+j*5+1))=some (zi D[j].N):=c1;have e2:(re i t d).cell? (zq g (f+j*5+2))=some (zi D[j].M):=c2;have e3:(re i t d).cell? (zq g (f+j*5+3))=some (.string (st D[j].S)):=c3;have e4:(re i t d).cell? (zq g (f+j*5+4))=some (.string (st D[j].T)):=c4;show(execOp _ _).run prog _=_;simp[execOp,go_sem,Act.put,e0,e1,e2,e3,e4,zdc]
  refine Jc.call (args:=#[.pointer _,.pointer _,zdc D[j].kd D[j].N D[j].M D[j].S D[j].T]) qfits zag rfl rfl (fun v=>by show(execOp _ _).run prog _=_;simp[execOp,go_sem,resolve,Act.put]) (qplain rfl Tryz.func21 rfl) (z _ _ _ _ _) ?_ ?_;rotate_left;rintro ch X ⟨he,_⟩;cases he;rintro vv X ⟨he,l,r',s',k',R,cr,cu,cw⟩;cases he;refine Jc.value (val:= .bool true) (w':=X) qfits zag rfl (fun t d=>⟨t,d,by show(execOp _ _).run prog _=_;simp[execOp,go_sem,Act.put]⟩) ?_;refine Jc.nil qfits zag ?_;have U:Pd cv tv lo B b (.slice (some ⟨g,f,none⟩) D.length o) D w (j+1) X:=⟨⟨r',s',k',R,by omega,by omega,by omega⟩,c.old.trans l,by omega,by omega,c.al.but l⟩;refine Xn.last' qfits qdm zag (Vz (p.thenX (P:=Tryz.prog) (fn:=10) (y:=xo0)) (id:=1)) fun w6 c6 E bg=>(show Code.wp prog _ _ _ _ from ?_);simp only[Act.put,xv,Zz,Z9];refine xjm (x8:=undef) (j:=j) (v:= .slice (some ⟨g,f,none⟩) D.length o) ⟨_,_,_,_,_,_,_,_,_,_,_,_,_,_,_,_,_,_,_,_,_,_,_,_,_,_,_,_,_,_,_,_,_,_,_,_,_,_,_,_,_,_,rfl⟩ rfl (R.nw (ji E)) fun a6 bm=>bg.o .normal _ _ ?_;show Xn Tryz.prog 10 xo0 _ a6 w6;refine lastq zag p fun w7 c7 be bh=>?_;refine xnv bm (by omega) fun a7 K=>bh.o .normal _ _ ⟨⟨j+1,K,(U.nw (ji E)).nw (ji be)⟩, ?_⟩;have h7:=xci K;show xfb a7<xfb a;omega
 show(if 0=0 then _ else _);rw[if_pos rfl];show Xn Tryz.prog 10 y10 PX a4 i;obtain⟨r,s,k,Q,q,O,V⟩:=c.pl;have HP:Hid (∀w',Nw i w'->xd5 cv tv lo B b w (.returned (.bool true)) w'):=fun w' n=>⟨rfl,(c.nw n).old,r,s,k,Q.nw n,q,by have:=c.j2;omega,by have:=c.j2;omega⟩;obtain⟨x3,x4,x5,x6,x8,x9,bp,bq,br,bs,bt,bu,bv,bw,bx,bz,b0,b1,b2,b3,b4,b5,b6,b7,b8,b9,ca,cb,cc,cd,ce,cf,cg,ci,cj,ck,cl,cm,cn,co,cp,cq,rfl⟩:=x;refine lastq zag W.o fun X c5 bd bf=>?_;have n5:=zl (ji bd);clear Q q O V H J
 conv=>arg 2;whnf
 go_wp2_with fail
 refine bf.o .ret _ _ ?_;rw[<-Y.o];refine⟨rfl,.bool true,fun t d=>⟨t,d, ?_⟩,HP.o _ n5.o⟩;show(results Tryz.f10 _).run prog _=_;simp[results,Tryz.results10,go_sem]
noncomputable def x9a:=Qa (Qf Tryz.f9.body)
noncomputable def x9b:=Qa (Qb (Qf Tryz.f9.body))
noncomputable def x9c:=Qa (Qb (Qb (Qf Tryz.f9.body)))
noncomputable def x9d:=Qa (Qn 3 (Qf Tryz.f9.body))
noncomputable def x9e:=Qa (Qn 5 (Qf Tryz.f9.body))
noncomputable def x9f:=Qa (Qn 6 (Qf Tryz.f9.body))
noncomputable def x9g:=Qa (Qn 7 (Qf Tryz.f9.body))
noncomputable def y9:=Qn 9 (Qf Tryz.f9.body)
noncomputable def r9a:=Qa (Qn 4 (Qf Tryz.f9.body))
noncomputable def r9b:=Qa (Qn 8 (Qf Tryz.f9.body))
def xtm:Tryz.f9.body=some (.seq x9a (.seq x9b (.seq x9c (.seq x9d (.seq r9a (.seq x9e (.seq x9f (.seq x9g (.seq r9b y9))))))))):=by kernel_rfl
def ze2:¬Mc Tryz.prog 9:=zuy (by decide) (by decide) Tryz.func9
def xvl:Jo:=⟨0,0,[],.slice none 0 0,[],0,0,0,0,0⟩
def Wy.new{seg:Int}{m:Zl}{D M:Nat}(e:m.length=32):Wy (Sr.new 100000 seg 999 m D M) xvl:=by
 have hk:Y0 (Jp m [] 0 0 0) []=Jp m [] 0 0 0:=by unfold Y0;rw[if_pos (show qu [] 0=[]from rfl)]
 refine⟨⟨[],[],Jp m [] 0 0 0,[],⟨⟨e,fun h=>absurd rfl h,⟨fun _=>rfl,fun h=>absurd rfl h⟩, ?_,fun i d=>absurd d (Wd _),rfl, ?_,fun n f=>absurd rfl f⟩,rfl,rfl,rfl,zbj.rfl' List.nodup_nil, ?_,rfl, ?_⟩⟩,zpx,FGd.nil,(fun p a=>(Vy a).elim),rfl,rfl,rfl, ?_, ?_, ?_,(fun c b=>(Vy b).elim), ?_,(fun p a=>(Vy a).elim),Vj _,Vj _,Vj _,.inl rfl,Int.le_refl _⟩;show zee _ (Y0 (Jp m [] 0 0 0) []) [] [] _ _;rw[hk];exact zee.nil _ _ _;show(Y0 (Jp m [] 0 0 0) []).base.toNat+_<=_;rw[hk];show(0:Nat)+0<=_;omega;show(0:Int)=(Y0 (Jp m [] 0 0 0) []).base;rw[hk];rfl;show(0:Int)=(Y0 (Jp m [] 0 0 0) []).named;rw[hk];rfl;show J6 []<=10116+1071*((0:Nat):Int);simp[J6];show(0:Int)<=((0:Nat):Int);omega;show(0:Nat)<=40;omega;show([]:List Chg).length<=20;simp
structure Sto(cv tv:Zv)(lo B:Nat)(r:Sr)(s:Jo)(w:Zy):Prop where
 st:Jq w B r
 sn:r.sn=some s
 inv:Wy r s
 L:s.L=[]
 P:s.P=[]
 cnt:r.cnt=0
 op:r.op=2
 ep:s.ep=0
 shots:s.shots=0
 own:∀x,r.own B x->lo<=x
def zvz(cv tv:Zv)(w:Zy)(e:Ending)(w':Zy):Prop:=∃B r s,e= .returned (zo B)/\Sto cv tv w.heap.size B r s w'/\Nw w w'
def Jq.nw{B:Nat}{r:Sr}(h:Jq w B r)(n:Nw w w'):Jq w' B r:=h.but n fun _ _=>id
def xgz{e:Ending}{d:Nat}:zvz cv tv w e (re w' t d)↔zvz cv tv w e w':=by
 have n1:Nw w' (re w' t d):=Nw.toRe (xb.refl _ _) t d;have f:Nw (re w' t d) w':=⟨rfl,rfl,ze _,fun _ _ _=>rfl⟩;constructor;rintro⟨B,r,s,b,a,c⟩;exact⟨B,r,s,b,⟨a.st.nw f,a.sn,a.inv,a.L,a.P,a.cnt,a.op,a.ep,a.shots,a.own⟩,c.trans f⟩;rintro⟨B,r,s,b,a,c⟩;exact⟨B,r,s,b,⟨a.st.nw n1,a.sn,a.inv,a.L,a.P,a.cnt,a.op,a.ep,a.shots,a.own⟩,c.trans n1⟩
def jt.nwf{B:Nat}{r r':Sr}{w0 w w':Zy}(n:Nw w0 w)(t:jt B r w r' w')(ho:∀x,r.own B x->w0.heap.size<=x):Nw w0 w':=
 ⟨t.but.os.trans n.os,t.but.output.trans n.output,xz n.size t.but.size,fun i a _=>(t.but.block i (zn a n.size) fun h=>by have:=ho i h;omega).trans (n.block i a id)⟩
def zyj{L:KV}(h:zbj L []):L=[]:=xa (h.len.trans rfl)
def zoc{B:Nat}{r:Sr}{s:Jo}{w:Zy}(h:Jq w B r)(b:r.sn=none)(I:Wy r s)(hop:r.op<999)(g:Glb cv tv w)(a:∀x,r.own B x->2<x):
  CC Tryz.prog 16 #[zo B] w fun e w'=>e= .returned (zi 0)/\∃mp kk L SS,ztl r s mp kk L/\jt B r w (Wp r kk SS L) w':=by
 refine(zrt (cv:=cv) (tv:=tv) h b hop (zac.of (s:=s) I (.inr b) a) g (fun i=>by have:=I.fby_len i;omega) (fun mp=>?_)).mono fun e w' ⟨j,mp,kk,L,SS,d,f⟩=>?_;obtain⟨kk,L,R⟩:=I.reopen mp;have n:=R.lst;exact⟨kk,L,R.look,by rw[R.mend],(fun k=>absurd (R.torn.symm.trans k) (by simp)),by omega,by omega⟩;obtain⟨l,m,R⟩:=I.reopen mp;have c:=d.symm.trans R.look;cases c;exact⟨j,mp,kk,L,SS,R,f⟩
def zl6{r:Sr}{s:Jo}{mp SS:Nat}{kk:Lk}{L:KV}(R:ztl r s mp kk L):(Wp r kk SS L).sn=some (V4 SS kk L):=by
 show some (V4 SS (Xi kk r.d).2.1 L)=_;rw[R.mend]
def xkm(ms:Zl)(sg:Int)(b1:-9223372036854775808<=sg/\sg<=9223372036854775807){w:Zy}(hG:Glb cv tv w):
  CC Tryz.prog 9 #[zs ms,zi sg,zi 999] w (zvz cv tv w):=by
 have hQ:ReQ (zcy Tryz.prog funcs Tryz.f9 (zvz cv tv w)):=zd6 fun e w' t d=>xgz;refine CC.of_postX qfits ze2 (qplain rfl Tryz.func9 rfl).1 Tryz.func9 xtm ?_;rw[show Tryz.f9.ntmps=89 from rfl];generalize hPX:zcy Tryz.prog funcs Tryz.f9 (zvz cv tv w)=PX at hQ;have J:=zl hQ;have b5:=zl hPX;have HG:=zl hG;have cx:=hG.pos;clear hQ hPX hG;simp only[jg,zh,jn,Nat.reduceAdd,Nat.reduceSub,qw,qx,Z7,Zi,jk,jc];refine goq ze2 J.o fun w1 cs bp S bu=>?_;have N1:=zl (ji bp);clear bu
 conv=>arg 2;whnf
 go_wp2_with fail
 refine S.o _ _ ?_;clear S;refine goq ze2 J.o fun w2 cy cj bs cl=>?_;have N2:Hid (Nw w w2):=N1.o.trans (ji cj);clear cl
 conv=>arg 2;whnf
 go_wp2_with fail
 refine(xjn sg 400 (by omega) (by omega) b1.1 b1.2 _).mono ?_;rintro e c1 ⟨⟨p,hp,rfl⟩,rfl⟩;have cm:IntKind.i64.wrap (1+(p:Int))=1+(p:Int):=by rw[xn];omega
 go_wp2_with fail
 refine(xga ms 32 (by omega) 32 rfl _).mono ?_;rintro e w3 ⟨rfl,bz⟩;have N3:Hid (Nw w w3):=N2.o.trans (xb.of_below bz);have bi:=xoo ms 32;clear bz;generalize szL ms 32=m at*
 go_wp2_with fail
 refine(xpw _ _ 999 m (by omega) (by omega) (by omega) (by omega) (by omega) (by omega) bi _).mono ?_;rintro e w4 ⟨B,D,M,rfl,hB,hD,hM,b0,bb⟩;have N4:Hid (Nw w w4):=N3.o.trans (xb.of_below b0);have S4:=zl bb;have I4:Hid (Wy (Sr.new 100000 (1+(p:Int)) 999 m D M) xvl):=Wy.new bi;have O4:Hid (∀x,(Sr.new 100000 (1+(p:Int)) 999 m D M).own B x->w.heap.size<=x):=fun x o=>by
  have h3:=N3.o.size;rcases o with e|(e|e|⟨c,W,_⟩)|⟨t,F,_⟩
  omega;have e:x=D:=e;omega;have e:x=M:=e;omega;cases W;cases F
 have C:(Sr.new 100000 (1+(p:Int)) 999 m D M).cnt=0:=rfl;have Z:(Sr.new 100000 (1+(p:Int)) 999 m D M).op=0:=rfl;have ba:(Sr.new 100000 (1+(p:Int)) 999 m D M).sn=none:=rfl;clear b0 bb hB hD hM cm hp bi;generalize Sr.new 100000 (1+(p:Int)) 999 m D M=r0 at*;have bl:=zl C;have bd:=zl Z;have b6:=zl ba;clear C Z ba
 go_wp2_with fail
 refine bs.o _ _ ?_;clear bs;refine goq ze2 J.o fun w5 ct bq T bv=>?_;have N5:=zl (ji bq);clear bv
 conv=>arg 2;whnf
 go_wp2_with fail
 refine T.o _ _ ?_;clear T;refine goq ze2 J.o fun w6 cu br U bw=>?_;have N6:Hid (Nw w4 w6):=N5.o.trans (ji br);clear bw
 conv=>arg 2;whnf
 go_wp2_with fail
 refine(zvr B r0 _ (S4.o.nw N6.o)).mono ?_;rintro e b3 ⟨rfl,rfl⟩;rw[show((r0.cnt:Nat):Int)=0 by rw[bl.o];rfl]
 go_wp2_with fail
 refine U.o _ _ ?_;clear U;have G6:=HG.o.but (N4.o.trans N6.o) fun _ x=>x.elim;have bc:∀x,r0.own B x->2<x:=fun x o=>by have:=O4.o x o;omega
 have b:=zoc (S4.o.nw N6.o) b6.o I4.o (by rw[bd.o];omega) G6 bc;refine Xn.seq qfits ze2 trivial ?_
 conv=>arg 3;whnf
 refine Xn.region_lit qfits ze2 ?_;refine Jc.value (val:=zo B) (w':=b3) qfits ze2 rfl (fun t d=>⟨t,d,by show(execOp _ _).run prog _=_;simp[execOp,go_sem]⟩) ?_;refine Jc.call qfits ze2 rfl rfl (fun v=>by show(execOp _ _).run prog _=_;simp[execOp,go_sem,resolve,Act.put]) (qplain rfl Tryz.func16 rfl) b ?_ ?_;rotate_left;rintro ch wx ⟨X,_⟩;cases X;rintro v w7 ⟨X,mp,kk,L,SS,R,b2⟩;cases X;refine mvq (val:=zi 0) ze2 ⟨rfl,rfl⟩ ?_;refine Jc.nil qfits ze2 ?_;refine(show Xn _ 9 _ PX _ w7 from ?_);simp only[Act.put,xv,Zz,Z9];have hL:=zyj R.same;subst hL;obtain⟨G,l⟩:∃G,G=Wp r0 kk SS []:=⟨_,rfl⟩;obtain⟨q,n⟩:∃q,q=V4 SS kk []:=⟨_,rfl⟩;have I7:Hid (Wy G q):=by show Wy _ _;rw[l,n];exact R.inv SS (by rw[bd.o];omega)
 have T7:Hid (jt B r0 b3 G w7):=by show jt _ _ _ _ _;rw[l];exact b2
 have Q7:Hid (G.sn=some q):=by show _=_;rw[l,n];exact zl6 R
 have E7:Hid (q.ep=0):=by show _=_;rw[n];exact R.ep
 have K:Hid (q.L=[]/\q.P=[]/\G.cnt=0/\G.op=1):=by
  refine⟨by rw[n];rfl,by rw[n];rfl, ?_, ?_⟩;rw[l];exact R.cnt.trans bl.o;rw[l];show r0.op+1=1;rw[bd.o]
 have O7:Hid (∀x,G.own B x->w.heap.size<=x):=fun x o=>by
  rcases T7.o.own x o with N|N;exact O4.o x N;have:=(N4.o.trans N6.o).size;omega
 have N7:=zl (jt.nwf (N4.o.trans N6.o) T7.o O4.o);clear l n b2 R b bc G6;refine goq ze2 J.o fun w8 cw Q V bx=>?_;have S8:=zl (T7.o.at_.nw (ji Q));have N8:Hid (Nw w w8):=N7.o.trans (ji Q);clear bx
 conv=>arg 2;whnf
 go_wp2_with fail
 refine(xgw B G [107] [118] _ S8.o (fun t F=>by rw[Q7.o]at F;cases F;exact I7.o.P20)).mono ?_;rintro e w9 ⟨aa,g,rfl,I,k⟩;obtain⟨rfl,pv,H⟩:aa=0/\∃pv,g={G with sn:=some (q.more pv (.put [107] [118]))}:=by
  unfold Sr.awaits at k;rw[Q7.o]at k;simp only at k;rw[if_neg (by decide),if_neg (by rw[K.o.2.1];simp)]at k;exact k
 have T9:=zl I;have E9:=zl H;have I9:Hid (Wy g (q.more pv (.put [107] [118]))):=by
  show Wy _ _;rw[H];refine I7.o.swap rfl rfl rfl rfl rfl rfl (fun c W=>?_) ?_;rcases Je.1 W with W|W
  rw[K.o.2.1]at W;cases W;rw[jp.1 W];exact⟨by simp,by simp,by simp⟩;show(q.P++[_]).length<=20;rw[K.o.2.1];simp
 have G9:Hid (g.gets [107]=([118],0)):=by
  show _=_;rw[znt (by rw[H]),if_neg (by decide)];have:(q.more pv (.put [107] [118])).now=[([107],[118])]:=by
   unfold Jo.now Jo.more;simp only;rw[K.o.1,K.o.2.1];rfl
  rw[this];rfl
 have O9:Hid (∀x,g.own B x->w.heap.size<=x):=fun x o=>by
  rcases I.own x o with N|N;exact O7.o x N;have:=N8.o.size;omega
 have N9:=zl (jt.nwf N8.o I O7.o);clear I k H
 go_wp2_with fail
 refine V.o _ _ ?_;clear V;refine goq ze2 J.o fun cn cc r y bf=>?_;have bo:=zl (T9.o.at_.nw (ji r));have b7:Hid (Nw w cn):=N9.o.trans (ji r);clear bf
 conv=>arg 2;whnf
 go_wp2_with fail
 refine(zti B g [107] _ bo.o (fun t F=>by rw[E9.o]at F;cases F;exact I9.o.P20)).mono ?_;rintro e co ⟨rfl,E⟩;rw[G9.o];have ce:=zl (bo.o.nw E);have b8:Hid (Nw w co):=b7.o.trans E;clear E
 go_wp2_with fail
 refine y.o _ _ ?_;clear y;refine goq ze2 J.o fun cp cd s z bg=>?_;have cf:=zl (ce.o.nw (ji s));have b9:Hid (Nw w cp):=b8.o.trans (ji s);clear bg
 conv=>arg 2;whnf
 go_wp2_with fail
 refine(zob B g _ cf.o).mono ?_;rintro e cq ⟨rfl,bh⟩;have ci:=zl bh;rw[show(if g.sn.isSome then(0:Int)else 5)=0 by rw[E9.o];rfl];have be:=zl (jt.nwf b9.o bh O9.o);clear bh
 go_wp2_with fail
 refine z.o _ _ ?_;clear z;have bk:=HG.o.but be.o fun _ x=>x.elim;have bm:Wy g.shut (q.more pv (.put [107] [118])):=I9.o.anySn none;have h:g.shut.op=1:=by show g.op=1;rw[E9.o];exact K.o.2.2.2
 have b:=zoc ci.o.at_ rfl bm (by rw[h];omega) bk (fun x o=>by have:=O9.o x (Wy.shut_own o);omega);refine Xn.seq qfits ze2 trivial ?_
 conv=>arg 3;whnf
 refine Xn.region_lit qfits ze2 ?_;refine Jc.value (val:=zo B) (w':=cq) qfits ze2 rfl (fun t d=>⟨t,d,by show(execOp _ _).run prog _=_;simp[execOp,go_sem]⟩) ?_;refine Jc.call qfits ze2 rfl rfl (fun v=>by show(execOp _ _).run prog _=_;simp[execOp,go_sem,resolve,Act.put]) (qplain rfl Tryz.func16 rfl) b ?_ ?_;rotate_left;rintro ch wx ⟨X,_⟩;cases X;rintro v bj ⟨X,cz,f,L2,j,R2,i⟩;cases X;refine mvq (val:=zi 0) ze2 ⟨rfl,rfl⟩ ?_;refine Jc.nil qfits ze2 ?_;refine(show Xn _ 9 _ PX _ bj from ?_);simp only[Act.put,xv,Zz,Z9];have ck:=zyj (by have:=R2.same;rwa[show(q.more pv (.put [107] [118])).L=[]from K.o.1]at this);subst ck;have a:Hid (Sto cv tv w.heap.size B (Wp g.shut f j []) (V4 j f []) bj):=by
  refine⟨i.at_,zl6 R2,R2.inv j (by rw[h];omega),rfl,rfl, ?_, ?_, ?_,rfl,fun x o=>?_⟩;show f.cnt=0;rw[R2.cnt];show g.cnt=0;rw[E9.o];exact K.o.2.2.1;show g.shut.op+1=2;rw[h];show f.ep=0;rw[R2.ep];exact E7.o;rcases i.own x o with N|N
  exact O9.o x (Wy.shut_own N);have:=be.o.size;omega
 have ca:=zl (jt.nwf be.o i fun x o=>O9.o x (Wy.shut_own o));have b4:Hid ((Wp g.shut f j []).gets [107]=([],8)):=by
  show _=_;rw[znt a.o.sn,if_neg (by decide)];rfl
 clear i R2 b bk bm h;generalize Wp g.shut f j []=r3 at*;generalize V4 j f []=s3 at*;refine lastq ze2 J.o fun c0 cr O bt=>?_;have cg:=zl (a.o.st.nw (ji O));have cb:=zl (ji O)
 conv=>arg 2;whnf
 go_wp2_with fail
 refine(zti B r3 [107] _ cg.o (fun t F=>by rw[a.o.sn]at F;cases F;exact a.o.inv.P20)).mono ?_;rintro e w16 ⟨rfl,Y⟩;rw[b4.o];have bn:Hid (Nw bj w16):=cb.o.trans Y;have hv:(st [118]).toList=[118]:=xo _;have X:(st ([]:Zl)).toList=[]:=xo _;clear Y
 go_wp2_with fail
 refine bt.o .ret _ _ ?_;rw[<-b5.o];refine⟨rfl,zo B,fun t d=>⟨t,d, ?_⟩,B,r3,s3,rfl,⟨a.o.st.nw bn.o,a.o.sn,a.o.inv,a.o.L,a.o.P,a.o.cnt,a.o.op,a.o.ep,a.o.shots,a.o.own⟩,ca.o.trans bn.o⟩;show(results Tryz.f9 _).run prog _=_;simp[results,Tryz.results9,go_sem]
noncomputable def x5a:=Qa (Qf Tryz.f5.body)
noncomputable def x5b:=Qa (Qb (Qb (Qf Tryz.f5.body)))
noncomputable def x5c:=Qa (Qn 3 (Qf Tryz.f5.body))
noncomputable def x5d:=Qa (Qn 5 (Qf Tryz.f5.body))
noncomputable def x5e:=Qa (Qn 6 (Qf Tryz.f5.body))
noncomputable def x5f:=Qa (Qn 7 (Qf Tryz.f5.body))
noncomputable def x5g:=Qa (Qn 8 (Qf Tryz.f5.body))
noncomputable def x5h:=Qa (Qn 9 (Qf Tryz.f5.body))
noncomputable def x5i:=Qa (Qn 10 (Qf Tryz.f5.body))
noncomputable def x5j:=Qa (Qn 11 (Qf Tryz.f5.body))
noncomputable def x5k:=Qa (Qn 12 (Qf Tryz.f5.body))
noncomputable def x5l:=Qa (Qn 13 (Qf Tryz.f5.body))
noncomputable def y5:=Qn 15 (Qf Tryz.f5.body)
noncomputable def r5a:=Qa (Qb (Qf Tryz.f5.body))
noncomputable def r5b:=Qa (Qn 4 (Qf Tryz.f5.body))
noncomputable def r5c:=Qa (Qn 14 (Qf Tryz.f5.body))
def xo9:Tryz.f5.body=some (.seq x5a (.seq r5a (.seq x5b (.seq x5c (.seq r5b (.seq x5d (.seq x5e (.seq x5f (.seq x5g (.seq x5h (.seq x5i (.seq x5j (.seq x5k (.seq x5l (.seq r5c y5))))))))))))))):=by kernel_rfl
noncomputable def c5:=Qf Tryz.f5.body
theorem xpa:Tryz.f5.body=some c5:=by kernel_rfl
theorem zb3:¬Mc Tryz.prog 5:=zuy (by decide) (by decide) Tryz.func5
def zq6:Bok:=⟨.slice none 0 0,.slice none 0 0,[],[],0,0,0⟩
def xl4(w:Zy):W6 (w.alloc (.cells zq6.cells 28)) w.heap.size zq6:=⟨xx.new _ _ _,⟨none,0,0,rfl,ze _,fun h=>absurd rfl h⟩,⟨none,0,0,rfl,ze _,fun h=>absurd rfl h⟩⟩
def xc7:srt []=[]:=xa (zlf [])
def zvv(w:Zy)(e:Ending)(w':Zy):Prop:=e= .returned (.bool true)/\Nw w w'
def xgv{e:Ending}{d:Nat}:zvv w e (re w' t d)↔zvv w e w':=⟨fun h=>⟨h.1,xb.re h.2⟩,fun h=>⟨h.1,Nw.toRe h.2 t d⟩⟩
theorem Compact_wx(ms:Zl)(sg:Int)(dm:-9223372036854775808<=sg/\sg<=9223372036854775807)(v:Zv)(Dd:List Ac){w:Zy}(hG:Glb cv tv w)(cs:AL w.heap.size w v Dd):
  Xn Tryz.prog 5 c5 (zcy Tryz.prog funcs Tryz.f5 (zvv w)) ⟨#[zs ms,zi sg,v]++Array.replicate (Tryz.f5.ntmps-#[zs ms,zi sg,v].size) undef,[]⟩ w:=by
 have hQ:ReQ (zcy Tryz.prog funcs Tryz.f5 (zvv w)):=zd6 fun e w' t d=>xgv;rw[jf (xpa.symm.trans xo9)];rw[show Tryz.f5.ntmps=109 from rfl];generalize hPX:zcy Tryz.prog funcs Tryz.f5 (zvv w)=PX at hQ;have E:=zl hQ;have bz:=zl hPX;have HG:=zl hG;have c8:=zl cs;have cz:=hG.pos;clear hQ hPX hG cs;simp only[jg,zh,jn,Nat.reduceAdd,Nat.reduceSub,qw,qx,Z7,Zi,jk,jc];refine goq zb3 E.o fun w1 du bd bh cq=>?_;have N1:=zl (ji bd);clear cq
 conv=>arg 2;whnf
 go_wp2_with fail
 refine bh.o _ _ ?_;clear bh;have c6:=xkm (cv:=cv) (tv:=tv) ms sg dm (w:=w1) (HG.o.but (S:=fun _=>False) N1.o fun _ x=>x.elim);refine Xn.seq qfits zb3 trivial ?_
 conv=>arg 3;whnf
 refine Xn.region_lit qfits zb3 ?_;refine mvq (val:=zs ms) zb3 ⟨rfl,rfl⟩ ?_;refine mvq (val:=zi sg) zb3 ⟨rfl,rfl⟩ ?_;refine Jc.call (f:=9) (args:=#[zs ms,zi sg,zi 999]) qfits zb3 rfl rfl (fun v=>by show(execOp _ _).run prog _=_;simp[execOp,go_sem,resolve,Act.put]) (qplain rfl Tryz.func9 rfl) c6 ?_ ?_;rotate_left;rintro ch wx ⟨B,r0,s0,X,_⟩;cases X;rintro vv w2 ⟨B,r0,s0,X,hS,cu⟩;cases X;refine mvq (val:=zo B) zb3 ⟨rfl,rfl⟩ ?_;refine Jc.nil qfits zb3 ?_;refine(show Xn Tryz.prog 5 _ PX _ w2 from ?_);simp only[Act.put,xv,Zz,Z9];have S2:=zl hS;have N2:Hid (Nw w w2):=N1.o.trans cu;have HZ:=zl (zwu bd);clear hS cu c6;refine goq zb3 E.o fun w3 dv cf bi cr=>?_;have N3:=zl (ji cf);clear cr
 conv=>arg 2;whnf
 go_wp2_with fail
 refine bi.o _ _ ?_;clear bi;refine goq zb3 E.o fun Y dx dh cg di=>?_;have N4:Hid (Nw w2 Y):=N3.o.trans (ji dh);clear di;have P4:Hid (Pl cv tv w.heap.size B Y.heap.size r0 s0 zq6 (Y.alloc (.cells zq6.cells 28))):=by
  have Z:=S2.o;have hn:Nw w (Y.alloc (.cells zq6.cells 28)):=(N2.o.trans N4.o).trans (Nw.alloc _ _);have cw:s0.now=[]:=by unfold Jo.now;rw[Z.L,Z.P];rfl
  refine⟨Z.st.nw (N4.o.trans (Nw.alloc _ _)),xl4 Y,Z.sn,Z.inv,⟨by rw[cw,xc7];rfl,by rw[Z.L,xc7];rfl,by rw[Z.P];rfl,by rw[Z.ep];rfl,by rw[Z.cnt];rfl⟩,fun x hx=>by have:=Z.own x hx;have:=HZ.o;omega,cz,(N2.o.trans N4.o).size,HG.o.but (S:=fun _=>False) hn fun _ x=>x.elim⟩
 have D4:Hid (Pd cv tv w.heap.size B Y.heap.size v Dd (Y.alloc (.cells zq6.cells 28)) 0 (Y.alloc (.cells zq6.cells 28))):=⟨⟨r0,s0,zq6,P4.o,by rw[S2.o.cnt];omega,by rw[S2.o.op];omega,by rw[S2.o.shots];exact Int.le_refl _⟩,xb.refl _ _,Vj _,Vj _,c8.o.but (((N2.o.trans N4.o).trans (Nw.alloc _ _)).mono fun _ x=>x.elim)⟩;have N5:Hid (Nw w (Y.alloc (.cells zq6.cells 28))):=(N2.o.trans N4.o).trans (Nw.alloc _ _);have I:zq6.cells=#[.slice none 0 0,.slice none 0 0,zi 0,zi 0,zi 0]:=rfl;rw[I]at P4 D4 N5;clear I
 conv=>arg 2;whnf
 go_wp2_with fail
 refine cg.o _ _ ?_;clear cg;generalize Y.alloc (.cells #[.slice none 0 0,.slice none 0 0,zi 0,zi 0,zi 0] 28)=w5 at*;generalize Y.heap.size=b at*;have cy:=xf0 D4.o;refine Xn.seq qfits zb3 trivial ?_
 conv=>arg 3;whnf
 refine Xn.region_lit qfits zb3 ?_;refine mvq (val:=zo b) zb3 ⟨rfl,rfl⟩ ?_;refine mvq (val:=zo B) zb3 ⟨rfl,rfl⟩ ?_;refine mvq (val:=v) zb3 ⟨rfl,rfl⟩ ?_;refine Jc.call (f:=10) (args:=#[zo b,zo B,v]) qfits zb3 rfl rfl (fun v=>by show(execOp _ _).run prog _=_;simp[execOp,go_sem,resolve,Act.put]) (qplain rfl Tryz.func10 rfl) cy ?_ ?_;rotate_left;rintro ch wx ⟨X,_⟩;cases X;rintro vv w6 ⟨X,D,r,s,k,hp,dl,d2,d4⟩;cases X;refine mvq (val:= .bool true) zb3 ⟨rfl,rfl⟩ ?_;refine Jc.nil qfits zb3 ?_;refine(show Xn Tryz.prog 5 _ PX _ w6 from ?_);simp only[Act.put,xv,Zz,Z9];have P6:=zl hp;have N6:Hid (Nw w w6):=by
  have n5:=N5.o;exact⟨D.os.trans n5.os,D.output.trans n5.output,xz n5.size D.size,fun i hi _=>(D.block i (zn hi n5.size) (by show¬w.heap.size<=i;omega)).trans (n5.block i hi id)⟩
 clear hp D cy;refine goq zb3 E.o fun w7 dy cc ci dj=>?_;have P7:=zl (P6.o.nw (ji cc));have N7:Hid (Nw w w7):=N6.o.trans (ji cc);clear dj
 conv=>arg 2;whnf
 go_wp2_with fail
 refine(size_pl P7.o).mono ?_;rintro e dp ⟨rfl,bq⟩;have de:=zl (P7.o.nw bq);have dd:Hid (Nw w dp):=N7.o.trans bq;clear bq
 go_wp2_with fail
 refine ci.o _ _ ?_;clear ci;refine goq zb3 E.o fun w8 dz cd cj cp=>?_;have P8:=zl (de.o.nw (ji cd));have N8:Hid (Nw w w8):=dd.o.trans (ji cd)
 conv=>arg 2;whnf
 by_cases d6:10000<za9 k.seen
 ·have i1:(10000:Int)<(za9 k.seen:Int):=by omega
  go_wp2_with fail
  refine cp.o .ret _ _ (by simp) ?_;rw[<-bz.o];refine⟨rfl,.bool true,fun t d=>⟨t,d, ?_⟩,rfl,N8.o⟩;show(results Tryz.f5 _).run prog _=_;simp[results,Tryz.results5,go_sem]
 have i1:¬(10000:Int)<(za9 k.seen:Int):=by omega
 go_wp2_with fail
 refine cj.o _ _ ?_;clear cj cp i1;refine goq zb3 E.o fun w9 d0 ce ck dk=>?_;have P9:=zl (P8.o.nw (ji ce));have N9:Hid (Nw w w9):=N8.o.trans (ji ce);clear dk
 conv=>arg 2;whnf
 go_wp2_with fail
 refine(shot_pl P9.o dl (by omega) (by omega)).mono ?_;rintro e j ⟨rfl,r2,s2,c,c4,hi,hB,hC,c7⟩;have T9:=zl c.at_;have K9:=zl (jt.bok P9.o.st c P9.o.bk);have O9:Hid (∀x,r2.own B x->w.heap.size<=x):=fun x hx=>by
  rcases c.own x hx with h|h;exact P9.o.own x h;have:=N9.o.size;omega
 have M9:=zl (jt.nwf N9.o c P9.o.own);have I9:=zl hi;have B9:=zl hB;have C9:=zl hC;have W9:=zl c4;obtain⟨pt,sl,f,hf,d5,d3,cx,ct⟩:=fnums_two hi.gd c7;have bx:=zl cx;have bw:=zl ct;clear c c4 hi hB hC c7 cx ct
 go_wp2_with fail
 refine ck.o _ _ ?_;clear ck;refine goq zb3 E.o fun dn dq ca be cm=>?_;have b1:Hid (Nw j dn):=ji ca;clear cm
 conv=>arg 2;whnf
 go_wp2_with fail
 refine(SImage_ok B r2 _ (T9.o.nw b1.o) I9.o.fok).mono ?_;rintro e a ⟨v,rfl,ho,hn⟩;rw[bw.o]at ho;obtain⟨ln,bp⟩:∃x,(Xs r2.d.L).length=x:=⟨_,rfl⟩;have bm:Hid (ln=if za9 k.seen=0 then 1 else 2):=by show _=_;rw[<-bp,bx.o];split<;>rfl
 rw[bp]at ho;obtain⟨g,d1,rfl,dw,V⟩:=img_at ho (by rw[bm.o];split<;>omega);have l:Hid (∀W,Nw a W->∀i x,(zi 0::zs sl::if za9 k.seen=0 then []else [zi f,zs pt])[i]?=some x->W.cell? (zq g i)=some x):=fun W h i x hx=>h.cell id (V i x hx);have b2:Hid (Nw j a):=b1.o.trans hn;clear ho hn bp V bx bw;generalize za9 k.seen=nn at*
 go_wp2_with fail
 refine be.o _ _ ?_;clear be;refine goq zb3 E.o fun br dr bc bf cn=>?_;have K:Hid (Nw j br):=b2.o.trans (ji bc);have b7:Hid (Nw a br):=ji bc;clear cn
 conv=>arg 2;whnf
 go_wp2_with fail
 refine bf.o _ _ ?_;clear bf;by_cases hz:nn=0
 focus
  subst hz;rw[if_pos rfl]at l;obtain rfl:ln=1:=bm.o.trans (if_pos rfl);refine goq zb3 E.o fun G b4 m y Q=>?_;have M:Hid (Nw j G):=K.o.trans (ji m);have J:Hid (Nw a G):=b7.o.trans (ji m);clear Q
  conv=>arg 2;whnf
  go_wp2_with fail
  refine y.o _ _ ?_;clear y;refine goq zb3 E.o fun H b5 o z T=>?_;have N:Hid (Nw j H):=M.o.trans (ji o);have F:Hid (Nw a H):=J.o.trans (ji o);have c0:=l.o _ F.o 0 _ rfl;have c1:=l.o _ F.o 1 _ rfl;clear T
  conv=>arg 2;whnf
  go_wp2_with fail
  refine z.o _ _ ?_;clear z;clear c0 c1;refine goq zb3 E.o fun w16 b6 q C U=>?_;have b3:Hid (Nw j w16):=N.o.trans (ji q);have bo:Hid (Nw a w16):=F.o.trans (ji q);clear U
  conv=>arg 2;whnf
  go_wp2_with fail
  refine C.o _ _ ?_;clear C
 rotate_left
 focus
  have d7:¬(nn:Int)=0:=by omega
  rw[if_neg hz]at l;obtain rfl:ln=2:=bm.o.trans (if_neg hz);refine goq zb3 E.o fun G b4 m y Q=>?_;have M:Hid (Nw j G):=K.o.trans (ji m);have J:Hid (Nw a G):=b7.o.trans (ji m);clear Q
  conv=>arg 2;whnf
  go_wp2_with fail
  refine y.o _ _ ?_;clear y;refine goq zb3 E.o fun H b5 o z T=>?_;have N:Hid (Nw j H):=M.o.trans (ji o);have F:Hid (Nw a H):=J.o.trans (ji o);have c0:=l.o _ F.o 0 _ rfl;have c1:=l.o _ F.o 1 _ rfl;clear T
  conv=>arg 2;whnf
  go_wp2_with fail
  refine z.o _ _ ?_;clear z;clear c0 c1;refine goq zb3 E.o fun w16 b6 q C U=>?_;have b3:Hid (Nw j w16):=N.o.trans (ji q);have bo:Hid (Nw a w16):=F.o.trans (ji q);have c2:=l.o _ bo.o 2 _ rfl;have c3:=l.o _ bo.o 3 _ rfl;clear U
  conv=>arg 2;whnf
  rcases hf with rfl|rfl
  all_goals
   go_wp2_with fail
   refine C.o _ _ ?_;clear C
 all_goals
  refine goq zb3 E.o fun bt dt cb bg co=>?_;have O:Hid (Nw j bt):=b3.o.trans (ji cb);have b8:=zl (T9.o.nw O.o);have c9:Hid (W6 bt b k):=⟨K9.o.blk.nw O.o,K9.o.kept.but O.o (fun _ _ _=>id),K9.o.seen.but O.o (fun _ _ _=>id)⟩;have dc:Hid (Nw w bt):=M9.o.trans O.o;clear co
  conv=>arg 2;whnf
  go_wp2_with fail
  refine(zob B r2 _ b8.o).mono ?_;rintro e br ⟨rfl,bb⟩;have b9:=zl bb;rw[show(if r2.sn.isSome then(0:Int)else 5)=0 by rw[W9.o];rfl];have K:=zl (jt.nwf dc.o bb O9.o);have da:=zl (jt.bok b8.o bb c9.o);clear bb
  go_wp2_with fail
  refine bg.o _ _ ?_;clear bg;have bv:=HG.o.but (S:=fun _=>False) K.o fun _ x=>x.elim;have bl:=zoc (cv:=cv) (tv:=tv) b9.o.at_ rfl (I9.o.anySn none) (by show r2.op<999;have:=C9.o.2.1;omega) bv (fun x hx=>by have:=O9.o x (Wy.shut_own hx);omega);refine Xn.seq qfits zb3 trivial ?_
  conv=>arg 3;whnf
  refine Xn.region_lit qfits zb3 ?_;refine mvq (val:=zo B) zb3 ⟨rfl,rfl⟩ ?_;refine Jc.call (f:=16) (args:=#[zo B]) qfits zb3 rfl rfl (fun v=>by show(execOp _ _).run prog _=_;simp[execOp,go_sem,resolve,Act.put]) (qplain rfl Tryz.func16 rfl) bl ?_ ?_;rotate_left;rintro ch wx ⟨X,_⟩;cases X;rintro vv G ⟨X,mp,kk,L,SS,R,c⟩;cases X;refine mvq (val:=zi 0) zb3 ⟨rfl,rfl⟩ ?_;refine Jc.nil qfits zb3 ?_;refine(show Xn Tryz.prog 5 _ PX _ G from ?_);simp only[Act.put,xv,Zz,Z9];have df:=zl c.at_;have J:Hid ((Wp r2.shut kk SS L).sn=some (V4 SS kk L)):=zl6 R;have ba:=zl (R.inv SS (by show r2.op<999;have:=C9.o.2.1;omega));have bn:=zl (jt.bok b9.o.at_ c da.o);have M:=zl (jt.nwf K.o c fun x hx=>O9.o x (Wy.shut_own hx));have bu:Hid (k.seen=srt (V4 SS kk L).now):=by
   show _=_;have h1:(V4 SS kk L).now=L:=rfl;rw[h1,xba R.same];exact B9.o.kept
  clear R c bl bv;generalize Wp r2.shut kk SS L=r3 at*;generalize V4 SS kk L=s3 at*;refine lastq zb3 E.o fun bs ds n cl=>?_;have dg:=zl (df.o.nw (ji n));have b0:Hid (W6 bs b k):=⟨bn.o.blk.nw (ji n),bn.o.kept.but (ji n) (fun _ _ _=>id),bn.o.seen.but (ji n) (fun _ _ _=>id)⟩;have db:Hid (Nw w bs):=M.o.trans (ji n);have c1:bs.cell? (zq b 1)=some k.sv:=b0.o.blk.cell 1 rfl
  conv=>arg 2;whnf
  go_wp2_with fail
  refine(zqe B r3 s3 k.seen k.sv _ dg.o J.o ba.o.P20 (fun p hp=>by have:=(znx ba.o p hp).2.1;omega) (by have:=zif ba.o;omega) b0.o.seen (by rw[bu.o];exact(zhv _).symm) (by rw[bu.o];exact zpf ba.o J.o)).mono ?_;rintro e H ⟨rfl,bj⟩;have N:Hid (Nw w H):=db.o.trans bj;clear bj
  go_wp2_with fail
  refine cl.o .ret _ _ ?_;rw[<-bz.o];refine⟨rfl,.bool true,fun t d=>⟨t,d, ?_⟩,rfl,N.o⟩;show(results Tryz.f5 _).run prog _=_;simp[results,Tryz.results5,go_sem]
end
end P
namespace A
open Go Go.Conc
variable [pn:Pn]
section
variable {Post:Zv→Zy→Prop}
section
variable {P:Program} {F:Array Func} {X:Nat->Prop}
def Beh.ends{g:Zg}{w:Zy}{m:Machine}{t:Trace}(U:Beh P X g w m t)
  (h:∀u:Zy,Sm P X (A.re w u.tape u.drawn) u->∃val es u',stepG P true g u= .ended (.done val) u' es/\(∀e∈es,EvT X u.heap.size e)/\Post val u'):
  ∃N last o w' t',runNT P (N+1) m t=(.ended o w',t')/\runN P N m= .next last/\step P last= .ended o w'/\Conc.Good P Post last o w' t':=by
 obtain⟨⟨a,v,sl,k,rfl,l,y,G⟩,ok,c,J⟩:=U;refine run_of_inv zjn (fun k m t=>∃(a:Array _) (v:Zy) (sl:Option _),m=Conc.crowd a v sl/\a[0]?=some g/\JL P X k a v t/\Sm P X (A.re w v.tape v.drawn) v) _ ?_ k _ _ ⟨a,v,sl,rfl,l,y,G⟩;clear y G l;rintro k m t ⟨a,v,sl,rfl,l,y,G⟩;have I:∀g∈a,awake g:=by
  intro f n;obtain⟨i,p,rfl⟩:=Z1.1 n;rcases jl i with rfl|b
  have:a[0]=g:=by simpa[xg p]using l
  rw[this];exact awake_of (.inl c);exact J5.awake k a v t y i _ b (xg p)
 obtain⟨i,f,d,F,p,n,E⟩:=crowd_pick (P:=P) (w:=v) (sl:=sl) I ⟨0,g,l,c⟩;have z:=J5.drawn k a v t d y;have C:Sm P X (A.re w v.tape d) (v.at d):=G.re _ d;rcases jl i with rfl|b
 obtain rfl:f=g:=by rw[l]at p;exact(jf p).symm
 obtain⟨val,es,u',D,K,r⟩:=h (v.at d) C;have s:=runT_many_ended (sl:=F) p (show stepG P _ f _=_ from D);obtain⟨q,S,T,rfl⟩:=z;have B:=T.own (fn:=f.frame.fn) (pos:=f.frame.place) K;refine .inl ⟨_,_,_,E.trans s,val,rfl,r,B.clean,B.over,⟨fun x O=>?_,rfl⟩,fun j x O L=>?_⟩;obtain⟨j,L⟩:=List.mem_iff_getElem?.1 O;rw[za7]at L;exact⟨_,(S.old (1+j) x (by omega) (by simpa[Conc.crowd]using L)).leaves⟩;have V:=S.old j x (by omega) O;refine⟨q j, ?_⟩;have e:(t++MemOp.ofEvents 0 f.frame.fn f.frame.place es).deaf j (t++MemOp.ofEvents 0 f.frame.fn f.frame.place es).size=Deaf t j:=
  Deaf_other t (g':=0) (by omega) _ (fun op M=>by obtain⟨e,_,rfl⟩:=zy M;rfl)
 rw[e];exact V.hears _;obtain⟨H,v',R,Q,W,Y,Z,r3,r4,r5⟩:=J5.other k a (v.at d) t i f g F z b p n l c J;exact .inr ⟨_,Q,W,E.trans Y,Z,H,v',R,rfl,r3,r4,r5 w C⟩
def xfu(B:Nat):zeh X B #[]:=
 ⟨past_nil.clean,fun i a b c=>by simp[touchAt,Trace.act?]at b,past_nil.over,past_nil.hears,fun i a b=>by simp[touchAt,Trace.act?]at b⟩
def xe3{N0:Nat}{m m1:Machine}{t t1:Trace}(a:runNT P N0 m t=(.next m1,t1))(h:∃N last o w' t',runNT P (N+1) m1 t1=(.ended o w',t')/\runN P N m1= .next last/\step P last= .ended o w'/\Conc.Good P Post last o w' t'):
  ∃N last o w' t',runNT P (N+1) m t=(.ended o w',t')/\runN P N m= .next last/\step P last= .ended o w'/\Conc.Good P Post last o w' t':=by
 obtain⟨N,last,o,w',t',b,c,d,e⟩:=h;refine⟨N0+N,last,o,w',t', ?_, ?_,d,e⟩;rw[Ja];exact ql a b;have f:(runNT P (N0+N) m t).1=(runNT P N m1 t1).1:=by
  rw[ql a (r:=(runNT P N m1 t1)) rfl]
 rw[<-runNT_fst P (N0+N) m t,f,runNT_fst];exact c
theorem zvf(K:J0 P F){f:FuncId}{args:Za}{fnc:Func}{c:Code}{R:Ending->Zy->Prop}(Z:¬Mc P f)(B:Ys P F f)(H:P.funcs[f]?=some fnc)(O:fnc.body=some c)
  {w v0:Zy}(h:Xn P f c (zcy P F fnc R) ⟨args++Array.replicate (fnc.ntmps-args.size) undef,[]⟩ w)(q:∀ch w',¬R (.panicked ch) w')(hS:Sm P X (A.re w v0.tape v0.drawn) v0):
  ∃N last o w' t',runNT P (N+1) (solo (G (Frame.enter P f args .normal) []) v0) #[]=(.ended o w',t')/\runN P N (solo (G (Frame.enter P f args .normal) []) v0)= .next last/\step P last= .ended o w'/\
   Conc.Good P (fun val u=>∃X' w',(∀x,X x->X' x)/\R (.returned val) w'/\Sm P X' (A.re w' u.tape u.drawn) u) last o w' t':=by
 have s:Frame.enter P f args .normal=(Frame.enter P f args .normal).at ⟨args++Array.replicate (fnc.ntmps-args.size) undef,[]⟩ [.code c]:=by
  simp[Frame.enter,Frame.at,H,O]
 have T:(wf P F).funcs[f]?=some fnc:=by show F[f]?=_;rw[B.1];exact H
 have z:Xv P (Frame.enter P f args .normal):=by
  have e:Frame.enter (wf P F) f args .normal=Frame.enter P f args .normal:=by simp[Frame.enter,T,H]
  rw[<-e];exact zls K.codes B Z args ⟨by simp,by simp⟩
 have hi:P.inits.idxOf? f=none:=z.init;have hb:Beh P X (Z0 (Frame.enter P f args .normal) []) w (solo (G (Frame.enter P f args .normal) []) v0) #[]:=
  ⟨⟨#[Z0 _ []],v0,none,_,rfl,rfl,⟨fun _=>0,⟨fun i g hi hg=>by
    have:i=0:=by have:=(za.1 hg).1;simp at this;omega
    omega,fun j hj=>rfl⟩,xfu _,rfl⟩,hS⟩,⟨.inr z,fun c O=>by cases O⟩,rfl,rfl⟩
 let At:Zg->Zy->Prop:=fun g' w'=>∃(a:Act) (b:List Item) (val:Zv),g'=Z0 {(Frame.enter P f args .normal).at a b with mode:= .returning} []/\a.defers=[]/\(∀t d,∃t' d',(results fnc a.tmps).run (wf P F) (A.re w' t d)= .ok val (A.re w' t' d'))/\R (.returned val) w';have V:RX P (Z0 (Frame.enter P f args .normal) []) w At:=by
  rw[s];refine h (Frame.enter P f args .normal) [] [] _ rfl rfl (fun e E w' k=>?_) (fun e E w' g' k n=>?_);cases e with
  |normal=>trivial
  |ret=>exact k.1
  |panic ch=>exact k.1
  |exit id=>exact k.2.elim
  |goto l=>exact k.2.elim
  |outgrown=>exact k.2.elim
  cases e with
  |normal=>
   obtain⟨_,rfl⟩:=n;obtain⟨hd,v,C,q⟩:=k;refine RX.ctl K (g':=Z0 {(Frame.enter P f args .normal).at E []with mode:= .returning} []) Z (fun v=>?_) rfl rfl rfl (.refl ⟨E,[],v,rfl,hd,C,q⟩);simp[stepG,Z0,Frame.at,stepG.exec]
  |ret=>
   obtain⟨_,b,rfl⟩:=n;obtain⟨hd,v,C,q⟩:=k;exact .refl ⟨E,b,v,rfl,hd,C,q⟩
  |panic ch=>exact(q ch w' k.2).elim
  |exit id=>exact k.2.elim
  |goto l=>exact k.2.elim
  |outgrown=>exact k.2.elim
 obtain⟨N,m',t',X',g',w',L,x1,b1,a,b,val,rfl,hd,C,M⟩:=V X _ _ hb;refine xe3 L (b1.ends fun u r=>?_);obtain⟨t1,Y,D⟩:=C u.tape u.drawn;obtain⟨p,m,I⟩:=(zh7 (P:=P) (F:=F) (X:=X') fnc a.tmps).mov _ u #[] r (by rw[D];trivial);rw[D]at I;have J:Sm P X' (A.re w' t1 Y) p:=I.sm;have W:p.heap.size=u.heap.size:=J.size.trans r.size.symm;refine⟨val,seen P f (#[]++m)++#[],p, ?_,fun e s=>?_,X',w',x1,M, ?_⟩;have U:(results fnc a.tmps).runT P u #[]=(.ok val p,#[]++m):=I.eq;have y:=zbx (fr:={(Frame.enter P f args .normal).at a b with mode:= .returning}) (by simp[Frame.enter,Frame.at]) hi val p;show unwind P true {(Frame.enter P f args .normal).at a b with mode:= .returning} [] none u=_;have Q:({(Frame.enter P f args .normal).at a b with mode:= .returning}:Zf).defers=[]:=hd;have S:P.funcs[({(Frame.enter P f args .normal).at a b with mode:= .returning}:Zf).fn]?=some fnc:=H;unfold unwind;rw[Q];simp only[S];rw[show(results fnc ({(Frame.enter P f args .normal).at a b with mode:= .returning}:Zf).tmps).runT P u #[]=(.ok val p,#[]++m)from U];simp only[y];rfl;have s:e∈seen P f (#[]++m):=by simpa using s
 have:=I.evs e (by simpa using mem_seen s);rw[W]at this;exact .of_evok this;have L:p.tape=t1:=J.tape;have e2:p.drawn=Y:=J.drawn;rw[L,e2];exact J
end
end
end A
namespace P
open Go.RowKit A Go Go.Conc
def xq2:Obj->Bool
 | .pending ..=>true
 | .deferred _=>true
 | .loop _=>true
 |_=>false
def zr4(j:Nat):Obj:= .chan j #[] false 0 0 false
def clean(j:Nat)(o:Obj):Obj:=if xq2 o=true then zr4 j else o
def zjw(j:Nat)(v:Zy):Zy:={v with heap:=v.heap.map (clean j)}
def X0(v:Zy)(r:Nat):Prop:=∃o,v.heap[r]?=some o/\xq2 o=true
abbrev pn0(v:Zy):Pn:=⟨⟨v.heap.size,fun r=>v.heap[r]?⟩⟩
section
variable {j r:Nat} {v:World}
def zu3:(zjw j v).heap[r]?=(v.heap[r]?).map (clean j):=by simp[zjw]
def zfs:(zjw j v).heap.size=v.heap.size:=by simp[zjw]
def zp8(h:¬X0 v r):(zjw j v).heap[r]?=v.heap[r]?:=by
 rw[zu3];cases e:v.heap[r]?with
 |none=>rfl
 |some o=>
  have:¬xq2 o=true:=fun a=>h ⟨o,e,a⟩;simp[clean,this]
def xc0(h:X0 v r):(zjw j v).heap[r]?=some (zr4 j):=by
 obtain⟨o,e,a⟩:=h;rw[zu3,e];simp[clean,a]
def zbi{a:Addr}{x:Zv}(h:v.cell? a=some x):(zjw j v).cell? a=some x:=by
 obtain⟨g,e,i,d,_⟩:=A.cells_of_cell (pn:=pn0 v) (py:=⟨137⟩) h;have f:¬X0 v a.block:=by
  rintro⟨o,b,c⟩;rw[d]at b;cases b;cases c
 have e:=zp8 (j:=j) f;unfold World.cell? at h⊢;rw[e];exact h
def sm0(P:Zp):Sm (pn:=pn0 v) P (X0 v) (A.re (zjw j v) v.tape v.drawn) v:=by
 refine @Sm.mk (pn0 v) P (X0 v) (A.re (zjw j v) v.tape v.drawn) v zfs.symm (fun r a=>(zp8 a).symm) (fun r a=>?_) (fun r=>?_) rfl rfl rfl rfl ⟨Nat.le_of_eq zfs.symm,fun r _ _=> .inl rfl⟩;have b:=xc0 (j:=j) a;obtain⟨o,e,c⟩:=a;exact⟨zr4 j,o,b,e,.inl ⟨rfl,by cases o<;>first|rfl|cases c⟩⟩;show A.DOk P (zjw j v).heap[r]?;rw[zu3];cases v.heap[r]?with
 |none=>exact .none
 |some o=>cases o<;>exact⟨fun _ _ h=>(by cases h),fun _ h=>(by cases h),fun _ h=>(by cases h)⟩
end
def Glb.ref{cv tv:Zv}{v:Zy}(h:Glb cv tv v)(j:Nat):Glb cv tv (zjw j v):=by
 obtain⟨⟨t,x,a,b⟩,⟨g,k,c,d⟩,e⟩:=h;exact⟨⟨t,x,a,zbi b⟩,⟨g,k,c,zbi d⟩,fun i f=>zbi (e i f)⟩
def AL.ref{v:Zy}{x:Zv}{D:List Ac}(h:AL v.heap.size v x D)(j:Nat):AL (zjw j v).heap.size (zjw j v) x D:=by
 obtain⟨a,b,o,p,q⟩:=h;refine⟨a,b,o,p,fun i r=>?_⟩;obtain⟨g,c,m,n,d,e,f,k,l⟩:=q i r;exact⟨g,c,m,by rw[zfs];exact n,zbi d,zbi e,zbi f,zbi k,zbi l⟩
def zjx{P:Zp}{o:Outcome}{w:Zy}{t':Trace}:∀{n:Nat} {m:Machine} {t:Trace},runNT P n m t=(.ended o w,t')->∀k,runNT P (n+k) m t=(.ended o w,t')
 |0,m,t,h,k=>by simp[runNT]at h
 |n+1,m,t,h,k=>by
  rw[Nat.add_right_comm];unfold runNT at h⊢;split at h;exact zjx h k;exact h
def xpt(v u:Zy):Prop:=u.os=v.os/\u.output=v.output/\v.heap.size<=u.heap.size/\∀r,r<v.heap.size->u.heap[r]?=v.heap[r]?
def Compact_run{cv tv:Zv}(B:Zl)(k:Int)(y:-9223372036854775808<=k/\k<=9223372036854775807)(x:Zv)(D:List Ac){v:Zy}(T:Glb cv tv v)(w:AL v.heap.size v x D):
  ∃N last o w' t',runNT Tryz.prog (N+1) (solo (G (Frame.enter Tryz.prog 5 #[.string (st B),.int .i64 k,x] .normal) []) v) #[]=(.ended o w',t')/\runN Tryz.prog N (solo (G (Frame.enter Tryz.prog 5 #[.string (st B),.int .i64 k,x] .normal) []) v)= .next last/\step Tryz.prog last= .ended o w'/\
   Go.Conc.Good Tryz.prog (fun val u=>val= .bool true/\xpt v u) last o w' t':=by
 have i:∀j,_:=fun j=>zvf (pn:=pn0 v) (qfits (pn:=pn0 v)) (zb3 (pn:=pn0 v)) (qplain (pn:=pn0 v) rfl Tryz.func5 rfl) Tryz.func5 (xpa (pn:=pn0 v)) (Compact_wx (pn:=pn0 v) B k y x D (T.ref j) (w.ref j)) (fun ch w' h=>by cases h.1) (sm0 (j:=j) (v:=v) Tryz.prog);obtain⟨N,last,o,w',t',F,J,K,val,rfl,⟨Y,w1,W,c,q⟩,L⟩:=i 0;obtain⟨E,z,o2,a,C,M,b2,b3,l,rfl,⟨Z,w2,X,S,V⟩,b5⟩:=i 1;obtain rfl:a=w':=by
  have O:=zjx F (E+1);have s:=zjx M (N+1);rw[zan (E+1)]at s;rw[O]at s;have Q:(l=val/\a=w')/\C=t':=by simpa using s.symm
  exact Q.1.2
 have g:∀{j:Nat} {n:ZP} {m:Zy},(∀r,X0 v r->n r)->Nw (zjw j v) m->Sm (pn:=pn0 v) Tryz.prog n (A.re m a.tape a.drawn) a->∀r,r<v.heap.size->a.heap[r]?=v.heap[r]?\/(X0 v r/\a.heap[r]?=some (zr4 j)):=by
  intro j n m hx U I r d;have H:m.heap[r]?=(zjw j v).heap[r]?:=U.block r (by rw[zfs];exact d) id;have f:a.heap[r]?=m.heap[r]?->a.heap[r]?=v.heap[r]?\/(X0 v r/\a.heap[r]?=some (zr4 j)):=fun e=>by
   rw[H]at e;rcases Classical.em (X0 v r)with b|b
   exact .inr ⟨b,e.trans (xc0 b)⟩;exact .inl (e.trans (zp8 b))
  rcases Classical.em (n r)with t|t;rcases(Sm.pin (pn:=pn0 v) I).2 r t d with e|e;exact .inl e;exact f e;exact f (Sm.out (pn:=pn0 v) I r t)
 refine⟨N,last,_,a,t',F,J,K,val,rfl,⟨?_, ?_, ?_, ?_,fun r d=>?_⟩,L⟩;have:=c.1;simpa using this;exact(Sm.os (pn:=pn0 v) q).trans c.2.os;exact(Sm.output (pn:=pn0 v) q).trans c.2.output;have e0:=Sm.size (pn:=pn0 v) q;have H:a.heap.size=w1.heap.size:=e0;have R:=c.2.size;rw[zfs]at R;omega;rcases g W c.2 q r d with e|⟨b,e⟩
 exact e;rcases g X S.2 V r d with p|⟨_,p⟩
 exact p;rw[e]at p;simp[zr4]at p
end P
namespace P
open Go.RowKit A Go.ChangeShapes Go.WideShapes
def zwk:Tryz.prog.cellsOf 47=5:=by kernel_rfl
def zg6{w:Zy}{base:Nat}{a:Addr}{n:Nat}{cs:Ze}(h:w.cells? base a n=some cs)(i:Nat)(e:i<n):∃v,cs[i]?=some v/\w.cell? (a.add i)=some v:=by
 unfold World.cells? at h;split at h;obtain⟨b,c,d⟩:=Lib.mapM_at h i i (by simp[e]);exact⟨b,c,d⟩;cases h
def xoj(s:ByteArray):st s.data.toList=s:=by cases s;simp[st]
def xjh{H:Type}{enc:Zt×Zv->H}{W:Zy}{fuel:Nat}{a:Addr}{cs:Ze}{x:DataW H×List MemPlace}
  (e:W.cells? 0 a 5=some cs)(E:DataW.trod enc Tryz.prog W 0 (fun _=>true) true fuel 47 cs=some x):
  ∃g off d,a=(zq g off)/\Ac.At W g off d:=by
 obtain⟨N,e0,i⟩:=zg6 e 0 (by decide);obtain⟨O,j,w⟩:=zg6 e 1 (by decide);obtain⟨Q,l,y⟩:=zg6 e 2 (by decide);obtain⟨R,m,z⟩:=zg6 e 3 (by decide);obtain⟨S,o,B⟩:=zg6 e 4 (by decide);obtain⟨M,n,_,rfl,v,f,b⟩:=DataW.trod_struct Tryz.underlying47 E;rw[zwk]at v
 match cs,v with
 |[u0,u1,u2,u3,u4],_=>
  match M,f with
  |[x0,x1,x2,x3,x4],_=>
   have p:=b 0 _ rfl;have q:=b 1 _ rfl;have r:=b 2 _ rfl;have s:=b 3 _ rfl;have t:=b 4 _ rfl;simp only[Xl,Xb]at p q r s t;simp only[Xl,Xb,zp]at e0 j l m o;obtain⟨k,hk,_,_⟩:=DataW.trod_int Tryz.underlying3 p;obtain⟨J,G,_,_⟩:=DataW.trod_int Tryz.underlying3 q;obtain⟨I,F,_,_⟩:=DataW.trod_int Tryz.underlying3 r;obtain⟨K,C,_,_⟩:=DataW.trod_string Tryz.underlying9 s;obtain⟨L,D,_,_⟩:=DataW.trod_string Tryz.underlying9 t;cases hk;cases G;cases F;cases C;cases D;subst e0;subst j;subst l;subst m;subst o;obtain⟨g,off,h⟩:=a;have c:h=none:=by simpa[Addr.add]using World.cell?_spot i
   subst c;rw[Go.WideShapes.add_plain]at i w y z B;exact⟨g,off,⟨k,J,I,K.data.toList,L.data.toList⟩,rfl,i,w,y,z,B⟩
def xfp{H:Type}{enc:Zt×Zv->H}{W:Zy}{fuel:Nat}{a0:Option Addr}{len cap:Nat}{x:DataW H×List MemPlace}
  (B:DataW.trod enc Tryz.prog W 0 (fun _=>true) true fuel 22 (Value.slice a0 len cap).cells.toList=some x):∃D,AL W.heap.size W (.slice a0 len cap) D:=by
 have p:DataW.trod enc Tryz.prog W 0 (fun _=>true) true fuel 22 [Value.slice a0 len cap]=some x:=B;rcases DataW.trod_slice Tryz.underlying22 p with⟨c,_⟩|⟨a,w,r,j,y,n,_,c,J,_,G,I,v,o,_,_⟩
 cases c;exact⟨[],none,0,rfl,by simp,fun i h=>by simp at h⟩;cases c;have f:∀i,i<len->∃g b d,a.add (i*5)=(zq g b)/\Ac.At W g b d:=by
  intro i k;have t:=o i k;have q:i<j.length:=by omega
  rw[zwk,Yh q,Option.bind_eq_some_iff]at t;obtain⟨F,c,C⟩:=t;exact xjh c C
 have e:∀i,i<len->∃d,∃g b,some a=some ⟨g,b,none⟩/\g<W.heap.size/\Ac.At W g (b+i*5) d:=by
  intro i k;obtain⟨z,E,_,m,_⟩:=f 0 (by omega);rw[Nat.zero_mul]at m;have m:a=(zq z E):=by simpa[Addr.add]using m
  subst m;obtain⟨g,b,d,s,l⟩:=f i k;rw[Go.WideShapes.add_plain]at s;cases s;exact⟨d,_,_,rfl,qz l.1,l⟩
 refine⟨List.ofFn fun i:Fin len=>Classical.choose (e i i.2),some a,cap,by rw[List.length_ofFn],by rw[List.length_ofFn];omega,fun i k=>?_⟩;rw[List.length_ofFn]at k;rw[List.getElem_ofFn];exact zcb (e i k)
end P
namespace P
open Go.ChangeShapes Go.WideShapes Go.ChangeAt Go.RowKit A Go.Conc
open Go.ChangeMaps (open_string shut_string)
section
variable {rest:List (String×DataW Unit)}
def own:ownKnob Tryz.prog.godebug=none:=by kernel_rfl
def zul:laidOutB Tryz.prog=true:=by kernel_rfl
def xt0:Tryz.prog.globalNamed "coffer/prim.roundWords"=some 2:=by kernel_rfl
def xid:(Tryz.prog.globals[2]?).map (·.type)=some 236:=by kernel_rfl
def xw8:Tryz.prog.globalNamed "coffer/disk.ErrCrashed"=some 0:=by kernel_rfl
def xic:(Tryz.prog.globals[0]?).map (·.type)=some 212:=by kernel_rfl
def xw9:Tryz.prog.globalNamed "coffer/coffer.errTampered"=some 1:=by kernel_rfl
def xie:(Tryz.prog.globals[1]?).map (·.type)=some 212:=by kernel_rfl
def xhy:Tryz.prog.cellsOf 236=64:=by kernel_rfl
def xhx:Tryz.prog.cellsOf 232=1:=by kernel_rfl
def Ki:List Int:=[1116352408,1899447441,3049323471,3921009573,961987163,1508970993,2453635748,2870763221,3624381080,310598401,607225278,1426881987,1925078388,2162078206,2614888103,3248222580,3835390401,4022224774,264347078,604807628,770255983,1249150122,1555081692,1996064986,2554220882,2821834349,2952996808,3210313671,3336571891,3584528711,113926993,338241895,666307205,773529912,1294757372,1396182291,1695183700,1986661051,2177026350,2456956037,2730485921,2820302411,3259730800,3345764771,3516065817,3600352804,4094571909,275423344,430227734,506948616,659060556,883997877,958139571,1322822218,1537002063,1747873779,1955562222,2024104815,2227730452,2361852424,2428436474,2756734187,3204031479,3329325298]
def xs8:∀i:Fin 64,Ki.getD i.val 0=u (Kc i.val):=by decide+kernel
def zl1{P:Zp}{W:Zy}{x:String×DataW Unit}(h:laidMet P (x::rest) W):laidMet P rest W:=by
 obtain⟨r,⟨g,t,k,c,p,q,l,m,n,o,d,e⟩,j,f⟩:=h;subst e;exact⟨q,d,(List.nodup_append.1 j).2.1,fun b a i=>f b a (List.mem_append_right _ i)⟩
def zpm{P:Zp}{W:Zy}{n nm:String}{d:DataW Unit}{g:Nat}{ti:Zt}{ms:Array (String×Zt)}(i:P.globalNamed n=some g)(r:(P.globals[g]?).map (·.type)=some ti)(m:P.underlying ti=some (.interface ms))
  (h:laidMet P ((n,.iface nm d)::rest) W):∃tt v,W.cell? (zq g 0)=some (.iface tt v):=by
 obtain⟨C,⟨w,t,s,b,p,q,j,k,a,l,x,y⟩,B,z⟩:=h;obtain rfl:=jf (i.symm.trans j);obtain rfl:=jf (r.symm.trans k);obtain⟨_,tt,v,e,_,_⟩:=iface_of_trod m l;refine⟨tt,v, ?_⟩;unfold World.var? at a;rw[i,Option.bind_some]at a;unfold World.cell?;cases hb:W.heap[g]?with
 |none=>rw[hb]at a;cases a
 |some o=>
  rw[hb]at a;cases o with
  |cells c t f=>
   simp only[zp]at a;subst a;have e:c=#[.iface tt v]:=by cases c;simpa using e
   subst e;rfl
  |_=>cases a
def xq3{W:Zy}(h:laidMetH Tryz.prog Rows.compactRow.laid W):∃cv tv,Glb cv tv W:=by
 have a:laidMet Tryz.prog [("coffer/prim.roundWords",Rows.laid_coffer_prim_roundWords),("coffer/disk.ErrCrashed",Rows.laid_coffer_disk_ErrCrashed),("coffer/coffer.errTampered",Rows.laid_coffer_coffer_errTampered)] W:=h;have t:Lib.TabIs Tryz.prog W "coffer/prim.roundWords" .u32 Ki:=Lib.tabIs_of_head xt0 xid Tryz.underlying236 Tryz.underlying232 xhx xhy a;obtain⟨e,g,c⟩:=zpm xw8 xic Tryz.underlying212 (zl1 a);obtain⟨f,j,d⟩:=zpm xw9 xie Tryz.underlying212 (zl1 (zl1 a));refine⟨_,_,⟨e,g,rfl,c⟩,⟨f,j,rfl,d⟩,fun i b=>?_⟩;rw[t.cell xt0 i b,xs8 ⟨i,b⟩]
def xpt.below{v u:Zy}(h:xpt v u):Below v.blind.heap.size v.blind u.blind:=⟨h.1,rfl,h.2.1,h.2.2.1,h.2.2.2⟩
abbrev xqt:ByteArray:={data:=#[116,104,101,32,109,97,99,104,105,110,101,32,115,116,111,112,112,101,100]}
abbrev xvt:ByteArray:={data:=#[115,111,109,101,98,111,100,121,32,104,97,115,32,98,101,101,110,32,97,116,32,116,104,101,32,100,105,115,107]}
noncomputable def low:Nat:=(World.holding Tryz.prog default ⟨#[],#[],[]⟩).heap.size
noncomputable def zl0(os:Os):Zy:=
 let w0:=World.holding Tryz.prog os ⟨#[.cells #[.string xqt] 410,.cells #[.string xvt] 410],#[],[]⟩
 {w0 with heap:=((w0.heap.modify 2 fun
   | .cells _ t frozen=> .cells #[zu 1116352408,zu 1899447441,zu 3049323471,zu 3921009573,zu 961987163,zu 1508970993,zu 2453635748,zu 2870763221,zu 3624381080,zu 310598401,zu 607225278,zu 1426881987,zu 1925078388,zu 2162078206,zu 2614888103,zu 3248222580,zu 3835390401,zu 4022224774,zu 264347078,zu 604807628,zu 770255983,zu 1249150122,zu 1555081692,zu 1996064986,zu 2554220882,zu 2821834349,zu 2952996808,zu 3210313671,zu 3336571891,zu 3584528711,zu 113926993,zu 338241895,zu 666307205,zu 773529912,zu 1294757372,zu 1396182291,zu 1695183700,zu 1986661051,zu 2177026350,zu 2456956037,zu 2730485921,zu 2820302411,zu 3259730800,zu 3345764771,zu 3516065817,zu 3600352804,zu 4094571909,zu 275423344,zu 430227734,zu 506948616,zu 659060556,zu 883997877,zu 958139571,zu 1322822218,zu 1537002063,zu 1747873779,zu 1955562222,zu 2024104815,zu 2227730452,zu 2361852424,zu 2428436474,zu 2756734187,zu 3204031479,zu 3329325298] t frozen
   |o=>o).modify 0 fun
   | .cells _ t frozen=> .cells #[.iface 388 (zo low)] t frozen
   |o=>o).modify 1 fun
   | .cells _ t frozen=> .cells #[.iface 388 (zo (low+1))] t frozen
   |o=>o}
def xim(a:Os):laidMet Tryz.prog Rows.compactRow.laid ((zl0 a).forCall (fun _ _=>0) ⟨#[],#[.string ⟨#[]⟩,zi 0,.slice none 0 0],[]⟩).memory:=
 laidMet_of_run' 70 (by kernel_rfl) (by kernel_rfl)
def xvf(a:Os){H:Type}(enc:Zt×Zv->H):∃places,DataW.whole enc Tryz.prog ((zl0 a).forCall (fun _ _=>0) ⟨#[],#[.string ⟨#[]⟩,.int .i64 0,.slice none 0 0],[]⟩).memory Tryz.f5.params.toList Rows.compactSpec.vars false (#[Value.string ⟨#[]⟩,.int .i64 0,.slice none 0 0]).toList 8=some ([.lit (.string []),.lit (.int .i64 0),.nil],[],places):=
 ⟨[],by kernel_rfl⟩
def xxj{H:Type}{enc:Zt×Zv->H}(W:Zy)(base:Nat)(args:Za)(z gs:List (DataW H))(b:List MemPlace)
  (a:∀(j:Nat) t v,Tryz.f5.params[j]?=some t->args[j]?=some v->Value.okWide Tryz.prog W .any base t v)
  (J:DataW.Whole enc Tryz.prog Tryz.f5.params.toList Rows.compactSpec.vars false W args.toList z gs b)(T:laidMetH Tryz.prog Rows.compactRow.laid W):
  ∃M last o w' t',runNT Tryz.prog (M+1) (solo (G (Frame.enter Tryz.prog 5 args .normal) []) W) #[]=(.ended o w',t')/\runN Tryz.prog M (solo (G (Frame.enter Tryz.prog 5 args .normal) []) W)= .next last/\step Tryz.prog last= .ended o w'/\
   Conc.Good Tryz.prog (fun v W'=>Rows.compactSpec.post enc Tryz.prog Tryz.f5 false true false false W.blind args v W'.blind) last o w' t':=by
 have c:=J;obtain⟨p,q,d,U,rfl,X,Y⟩:=J;have I:DataW.TrodAll enc Tryz.prog W 0 (fun _=>true) true Tryz.f5.params.toList args.toList z p:=d;rw[Tryz.params5]at I a;obtain⟨v0,v1,v2,d0,d1,Q,p0,p1,K,rfl,rfl,rfl,C,E,F⟩:=trodAll_three I;obtain⟨rfl,rfl⟩:=trodVars_none U;have l:=C;have m:=E;have n:=F;obtain⟨g,rfl,rfl,rfl,ba⟩:=open_string Tryz.underlying9 (a 0 9 v0 rfl rfl) C;obtain⟨n1,rfl,rfl,rfl,e⟩:=open_int Tryz.underlying3 (a 1 3 v1 rfl rfl) E;obtain⟨O,y,k,rfl⟩:=okWide_slice Tryz.underlying22 (a 2 22 v2 rfl rfl);obtain⟨B,V⟩:=F;clear d;simp only[Xq]at c;have r:∀x∈K,x.block<W.heap.size:=fun x f=>c.lt x (by simpa using f);obtain⟨D,R⟩:=xfp V;obtain⟨cv,tv,S⟩:=xq3 T;have s:-9223372036854775808<=n1/\n1<=9223372036854775807:=by
  simp only[Lit.wf,xl,X9]at e;exact e
 obtain⟨M,last,o,w',t',L,N,r3,r4⟩:=Compact_run g.data.toList n1 s _ D S R;rw[show st g.data.toList=g from xoj g]at L N;refine⟨M,last,o,w',t',L,N,r3,r4.mono fun v Z=>?_⟩;obtain⟨rfl,hk⟩:=Z;have i:=hk.below;have w:=DataW.Whole.of_heap (w':=W.blind) (by rfl) c;have t0:DataW.Trod enc Tryz.prog W.blind 0 (fun _=>true) true 9 (.string g) _ []:=DataW.Trod.of_heap (by rfl) l;have t1:DataW.Trod enc Tryz.prog W.blind 0 (fun _=>true) true 3 (.int .i64 n1) _ []:=DataW.Trod.of_heap (by rfl) m;have t2:DataW.Trod enc Tryz.prog W.blind 0 (fun _=>true) true 22 (.slice O y k) Q K:=DataW.Trod.of_heap (by rfl) n;refine⟨_,_,_,[],_,[],w,trodAll_cons_mk (shut_bool Tryz.underlying4 _) trodAll_mk0,
  trodAll_cons_mk (Below.trod zul (by kernel_rfl) (Xj (by kernel_rfl)) t0 i (fun x f=>by cases f)) (trodAll_cons_mk (Below.trod zul (by kernel_rfl) (Xj (by kernel_rfl)) t1 i (fun x f=>by cases f))
   (trodAll_cons_mk (Below.trod zul (by kernel_rfl) (Xj (by kernel_rfl)) t2 i r) trodAll_mk0)),rfl,i.frame _,fun h=>by cases h⟩
def lifted(h:Os)(a:h.Started)(H:Type)(enc:Zt×Zv->H):
  ReturnsInLeavingWide {} Tryz.checked h 5 .any ((OpenSpec.ofChange Rows.compactSpec).preRow enc Tryz.prog Tryz.f5 Rows.compactRow.domain false Rows.compactRow.laid) (Rows.compactSpec.post enc Tryz.prog Tryz.f5 false true false false):=by
 obtain⟨j,t⟩:=xvf h enc;refine returnsInLeavingWide_of_good own a
  (witness_row_at false _ _ rfl (by kernel_rfl) (by kernel_rfl) (by kernel_rfl)
   (OpenSpec.preRow_of_cond 8 t (by kernel_rfl) (fun k hk=>by cases hk) (by kernel_rfl) (xim h))) ?_
 intro w f i _ _ _ m c _;obtain⟨_,_,_,l,b,_,_,_,_,d⟩:=m;have e:l=Tryz.f5:=jf (b.symm.trans Tryz.func5);subst e;obtain⟨⟨r,q⟩,x⟩:=c;obtain⟨o,p,g,s,v,hk⟩:=OpenSpec.pre_parts r;have n:=DataW.Whole.of_heap (w':=w.forCall f i) (by rfl) s;exact xxj _ _ _ o p _ d n (q.of_heap (by rfl))
end
end P
namespace P
open Go.RowKit A
def za8{a b:Bool}(h:a=true)(k:b=true):(a&&b)=true:=by rw[h,k];rfl
def j0:(Rows.compactRow.wf (OpenSpec.ofChange Rows.compactSpec))=true:=by kernel_rfl
def j1:(laidOutB Tryz.pinned.checked.prog)=true:=by kernel_rfl
def j2:(mapsRowed Tryz.pinned.checked.prog)=true:=by kernel_rfl
def j3:(Tryz.f5.params.all (Tryz.pinned.checked.prog.readableRec ·))=true:=by kernel_rfl
def j4:(namedTie Tryz.pinned.checked.prog Rows.compactRow.named Rows.compactSpec.vars)=true:=by kernel_rfl
def j5:((Rows.compactRow.stops==[]))=true:=by kernel_rfl
def j6:((Tryz.pinned.checked.prog.stops==[]))=true:=by kernel_rfl
def j7:((Rows.compactRow.knobs==[]))=true:=by kernel_rfl
def j8:((Tryz.pinned.checked.prog.stopKnobs==[]))=true:=by kernel_rfl
def j9:((Rows.compactRow.inPlace==Tryz.pinned.checked.prog.inPlace 5))=true:=by kernel_rfl
def j10:((Rows.compactRow.unfollowed==Tryz.pinned.checked.prog.unfollowed 5))=true:=by kernel_rfl
def j11:((Rows.compactRow.recurses==Tryz.pinned.checked.prog.recurses 5))=true:=by kernel_rfl
def j12:((Rows.compactRow.named==Tryz.pinned.checked.prog.varsNamed 5))=true:=by kernel_rfl
def j13:((Rows.compactRow.maps==(Tryz.f5.params.toList++Rows.compactSpec.plain.varTypes Tryz.pinned.checked.prog).any (Tryz.pinned.checked.prog.mapsRec ·)))=true:=by kernel_rfl
def j14:((Rows.compactRow.ifaces==(Tryz.f5.params.toList++Rows.compactSpec.plain.varTypes Tryz.pinned.checked.prog).any (Tryz.pinned.checked.prog.ifacesRec ·)))=true:=by kernel_rfl
def j15:((Rows.compactRow.mapsOut==Tryz.pinned.checked.prog.mapsAmong Tryz.f5.resultTypes.toList))=true:=by kernel_rfl
def j16:((Rows.compactRow.loops==(Tryz.f5.params.toList++Rows.compactSpec.plain.varTypes Tryz.pinned.checked.prog).any (Tryz.pinned.checked.prog.loopsFrom ·)))=true:=by kernel_rfl
def j17:((Rows.compactRow.wideKeys==(Tryz.f5.params.toList++Rows.compactSpec.plain.varTypes Tryz.pinned.checked.prog++Tryz.f5.resultTypes.toList).any (Tryz.pinned.checked.prog.wideKeysFrom ·)))=true:=by kernel_rfl
def j18:(Rows.compactSpec.vars.all (Tryz.pinned.checked.prog.varReadable ·))=true:=by kernel_rfl
def j19:(Tryz.f5.resultTypes.all (fun t=>Tryz.pinned.checked.prog.readableRec t&&decide (t<Tryz.pinned.checked.prog.types.size)))=true:=by kernel_rfl
def j20:((Rows.compactRow.ifacesOut==Tryz.f5.resultTypes.toList.any (Tryz.pinned.checked.prog.ifacesRec ·)))=true:=by kernel_rfl
def j21:((Rows.compactRow.loopsOut==Tryz.f5.resultTypes.toList.any (Tryz.pinned.checked.prog.loopsFrom ·)))=true:=by kernel_rfl
def j22:((Rows.compactRow.plainKeys==Tryz.pinned.checked.prog.plainKeys))=true:=by kernel_rfl
def j23:(Rows.compactRow.shortTexts.isNone)=true:=by kernel_rfl
def j24:(Tryz.pinned.checked.prog.stopsHeard)=true:=by kernel_rfl
def j25:(Tryz.pinned.checked.prog.mayEnter)=true:=by kernel_rfl
def j26:((Rows.compactRow.lifted==Tryz.pinned.checked.prog.liftsFinal))=true:=by kernel_rfl
def j27:((Tryz.pinned.checked.prog.make==some Rows.compactRow.make))=true:=by kernel_rfl
def j28:((Rows.compactRow.kinds==(if Rows.compactRow.domain.isEmpty then []else Tryz.f5.params.toList.map fun t=>match Tryz.pinned.checked.prog.underlying t with|some (.int k)=>some k|_=>none)))=true:=by kernel_rfl
def j29:((Rows.compactRow.pinned==Rows.compactRow.pinnedBy))=true:=by kernel_rfl
def j30:((Rows.compactRow.veiled==(Tryz.f5.params.toList++Rows.compactSpec.plain.varTypes Tryz.pinned.checked.prog++Tryz.f5.resultTypes.toList).any (Tryz.pinned.checked.prog.veiledRec ·)))=true:=by kernel_rfl
def j31:(Rows.compactRow.veiledFits Tryz.pinned.checked.prog Tryz.f5.params.toList (Tryz.f5.params.toList++Rows.compactSpec.plain.varTypes Tryz.pinned.checked.prog++Tryz.f5.resultTypes.toList))=true:=by kernel_rfl
def xty:joinedFacts Tryz.pinned.checked.prog 5 Tryz.f5 Rows.compactSpec Rows.compactRow=true:=by
 unfold joinedFacts;exact(za8 (za8 (za8 (za8 (za8 (za8 (za8 (za8 (za8 (za8 (za8 (za8 (za8 (za8 (za8 (za8 (za8 (za8 (za8 (za8 (za8 (za8 (za8 (za8 (za8 (za8 (za8 (za8 (za8 (za8 (za8 j0 j1) j2) j3) j4) j5) j6) j7) j8) j9) j10) j11) j12) j13) j14) j15) j16) j17) j18) j19) j20) j21) j22) j23) j24) j25) j26) j27) j28) j29) j30) j31)
def xro:Tryz.pinned.checked.prog.funcNamed Rows.compactRow.func=some 5:=by kernel_rfl
def xt3:Tryz.f5.isInstance Tryz.pinned.checked.prog Rows.compactRow.origin Rows.compactRow.targs:=Xj (by kernel_rfl)
def xv4:Tryz.f5.isWrapper Tryz.pinned.checked.prog Rows.compactRow.wrapper Rows.compactRow.mainSum:=by unfold Func.isWrapper;first|(rw[if_pos (by decide+kernel)];kernel_rfl)|(rw[if_neg (by decide+kernel)];exact⟨rfl,rfl⟩)
def said:Rows.CompactSaid:=
 OpenClaim.holds_of_wide_leaving 5 Tryz.f5 rfl rfl rfl rfl rfl rfl rfl ⟨rfl,rfl,rfl,rfl,rfl⟩ rfl rfl rfl rfl rfl xro Tryz.func5 xty xt3 xv4
  (fun c a H b _=>by rw[OpenClaim.pre_eq_preRow];exact lifted c a H b)
def plain(f:FuncId)(fn:Func)(d:Tryz.pinned.checked.prog.funcNamed "coffer/cofferkeep.Compact"=some f)(a:Tryz.pinned.checked.prog.funcs[f]?=some fn):
  true=Tryz.pinned.checked.prog.looks []/\∀(j:Nat) t,fn.params[j]?=some t->Tryz.pinned.checked.prog.wantsStandIn t=false:=by
 obtain rfl:f=5:=jf ((show Tryz.prog.funcNamed "coffer/cofferkeep.Compact"=some 5 by kernel_rfl).symm.trans d) |>.symm;obtain rfl:fn=Tryz.f5:=(jf (Tryz.func5.symm.trans a)).symm;refine⟨by kernel_rfl,fun j t c=>?_⟩;rw[Tryz.params5]at c;have b:=Wk c;simp only[List.mem_toArray,xf,Vy,or_false]at b;rcases b with rfl|rfl|rfl;exact(show Tryz.prog.wantsStandIn 9=false by kernel_rfl);exact(show Tryz.prog.wantsStandIn 3=false by kernel_rfl);exact(show Tryz.prog.wantsStandIn 22=false by kernel_rfl)
def xt1:true=Rows.compactRow.goesBy Tryz.pinned.checked.prog:=by kernel_rfl
def xt7:Tryz.pinned.checked.prog.mainIs=some (true,"6112a70bf7700c9ef082f368a9341514db7d80b00d6c93fffd8a755e3258b503".toList):=by kernel_rfl
def card:Rows.CompactCardSaid:=
 ⟨Claim7.tied_new_at .later [.data,.sentinel,.sentinel] true (Claim7.new_of_sixth said (true,"6112a70bf7700c9ef082f368a9341514db7d80b00d6c93fffd8a755e3258b503") true rfl ⟨rfl,rfl⟩ xt7 rfl plain) (by kernel_rfl),fun D a=>(by cases a),compact_row_tie,(fun h=>by cases h),xt1⟩
end P
end Go.Proofs.YtjnbhiamaabbgabGreatDoor
