import Derived.Test.YtjnbhiamaabbgaaGreatDoorM9
import Derived.Conc.WgGenN3
import Derived.Conc.TokenWalk
import Derived.Conc.FxGenLone
import Derived.Conc.CompanyDraw
set_option linter.all false
set_option maxRecDepth 100000
set_option maxHeartbeats 8000000
namespace Go.Proofs.YtjnbhiamaabbgaaGreatDoor
open Bool renaming false->bK,true->bL
open Go renaming Goroutine->aS,MapEntry->aK,Oper->aD,Program->aV,execOp->bG,stepG->aZ,undef->bJ
open Go.Conc renaming Deaf_other->aG,stepG_region_end->bB,stepG_seq->aO
open Go.Instr renaming findKey->aT
open Go.MemAct renaming ofEvent->aU,touch?->aR
open Go.MemOp renaming ofEvents->bD
open Go.Proofs.Tryz renaming prog->bM
open Go.Region renaming wanted->aX
open Go.Region.linearise renaming go->aC
open Go.Result renaming andThen->aY
open Go.World renaming cell?->aQ
open Option renaming none->bN,some->bO
open _root_.Array renaming replicate->aW
open _root_.Ne renaming symm->aL
namespace A
open Go Go.Conc
open Go.ConcN (sumTo upd sumTo_upd upd_ne upd_same RW DWs AtR0 AtK1 AtD1 WgLive PayAt Has AsideCell EvW ShN)
open Go.ConcR (KK wgBlock WgAt stA smA rd wr mk Payload DC0)
variable [pn:Pn]
section
variable {w:Zy} {es:Array Event} {Dd:Zy→Zy→Array Event→Prop} {Stop:Zg→Zy→Prop}
section
variable [Payload] {P:aV} {ty:TypeId} {Wg C:Nat} {S:Nat->Prop} {D M c:Nat} {vals:List Value} {o:Nat->Obj} {X:Nat->Prop} {p rg r:Nat}
variable {d st m:Nat} {left:List Value} {b g0:aS} {q:Nat->Nat} {gs:Array aS} {v:World} {t:Trace} {sl:Option<|Nat×Nat}
def Nt{u:Trace}(c:∀op∈u,op.act≠ .mark .disable/\op.act≠ .mark .enable)(j:Nat):Deaf (t++u) j=Deaf t j:=by
 obtain⟨l⟩:=u;rw[Deaf_append];have b:∀op∈l,op.act≠ .mark .disable/\op.act≠ .mark .enable:=fun op a=>c op (by simpa using a);clear c;generalize Deaf t j=x;induction l generalizing x with
 |nil=>rfl
 |cons y l ih=>
  rw[J4];have:deafStep j x y=x:=by
   obtain⟨d,e⟩:=b y (by simp);unfold deafStep;split<;>simp_all
  rw[this];exact ih (fun op a=>b op<|by simp[a]) x
def TP.push{Th:Loc->Prop}{a0:Addr}{B':Nat}(h:TP X Th Wg C c a0 p B' t){op:MemOp}(b:op.act.touch?=bN)(d:op.act≠ .mark (.release a0)):TP X Th Wg C c a0 p B'<|t++#[op]:=
 h.mutes (g:=op.g) (fun x a=>by simp at a;rw[a]) (fun x a=>by simp at a;rw[a];exact b) (fun x a=>by simp at a;rw[a];exact d)
def rI(B:q9 X Wg C S D M){vs:Ze}{v0 z:Zv}{g₂:Zg}(h:dU P ty Wg C S D M c vals o X p rg r 0 (10+vs.length) m (v0::vs) b q gs v t)(hr:¬r<vals.length-(v0::vs).length)(h0:gs[0]?=bO (parked g₂ #[rcase C z]<|.recv bL))
  (hs:BV P C S M o v0 (xD P ty Wg C S D M o vs) b v)(hS:Sm P X (re w v.tape v.drawn) v):
  ∃gs' v' ops m' b',runT P (crowd gs v sl) c=(.next<|crowd gs' v' sl,ops)/\dU P ty Wg C S D M c vals o X p rg (r+1) 0 (9+vs.length) m' vs b' q gs' v' (t++ops)/\gs'[0]?=bO (Conc.served g₂<|.tuple #[v0,.bool bL])/\Sm P X (re w v'.tape v'.drawn) v'/\r<vals.length/\vals.getD r bJ=v0:=by
 obtain⟨_,Q,z',es,bd,H,F⟩:=hs;have k:c≠0:=Xh h.pos;have U:(c==0)=bK:=by have:=h.pos;simp;omega
 have J:c<gs.size:=by rw[h.size];omega
 have K:0<gs.size:=by omega
 have n:=h.chan;rw[show decide (10+vs.length<=8)=bK by simp;omega]at n;obtain⟨e1,e2,e3⟩:=Rc h.lefts h.nV;have bc:r=vals.length-(v0::vs).length:=by have:=h.nV;omega
 have hp:partners (gs.setIfInBounds c ph) C bK=[(0,0)]:=by
  rw[partners_one (j:=0) (g:=parked g₂ #[rcase C z]<|.recv bL) (stand_get (aL k) h0) fun j x R G=>?_];rw[offersAt_parked_recv];simp;rcases getElem?_stand gs c j x G with⟨_,rfl⟩|⟨bi,O⟩
  exact offersAt_ph _ _;refine offersAt_of_not_blocked ?_ _ _;have W:j<c:=by have:=(za.1 O).1;rw[h.size]at this;omega
  rcases(h.old j x (by omega) W O).status with e|e<;>rw[e]<;>simp
 have a:=crowd_send_meets (sl:=sl) h.hb (by rw[U];exact bd) n (aL k) h0 hp;rw[finishComm_send,finishComm_recv]at a;have bj:(v0::vs).length<=vals.length:=by
  have:=congrArg List.length h.lefts;simp only[jb]at this;simp only[zh]at*;omega
 have bb:r<vals.length:=by simp only[zh]at*;omega
 have bh:vals.getD r bJ=v0:=by
  have:=congrArg (fun l=>l[0]?) h.lefts;rw[Xo];simp only[Xl,PK]at this;rw[bc,<-Nat.add_zero<|vals.length-_,<-this];rfl
 generalize hv':v.setChan C vals.length ((vals.take<|vals.length-(v0::vs).length).drop r).toArray bK (vals.length-(v0::vs).length+1) (r+1) bK=v' at a;have T:C<v.heap.size:=(za.1 n).1;have f:∀x,x≠C->v'.heap[x]?=v.heap[x]?:=fun x G=>by
  rw[<-hv'];show(v.heap.setIfInBounds C _)[x]?=_;rw[zd<|aL G]
 have be:v'.heap.size=v.heap.size:=by rw[<-hv'];show(v.heap.setIfInBounds C _).size=_;simp
 have I:Kc S M o v':=fun x G=>(f x<|B.cs x G).trans<|h.kc x G;obtain⟨m',Y⟩:=cR<|F v' I;have bf:=VN (fn:=b.frame.fn) (pos:=b.frame.place) B.apart h.tp h.kc H;generalize hu4:(#[{g:=c,fn:=Q.frame.fn,pos:=Q.frame.place,act:=MemAct.send C<|vals.length-(v0::vs).length},{g:=0,fn:=g₂.frame.fn,pos:=g₂.frame.place,act:= .recv C r vals.length},
    {g:=c,fn:=Q.frame.fn,pos:=Q.frame.place,act:= .sendDone C (vals.length-(v0::vs).length)},{g:=0,fn:=g₂.frame.fn,pos:=g₂.frame.place,act:= .recvDone C r}]:Trace)=u4 at a
 have L:∀s∈u4,s.act.touch?=bN/\s.act≠ .mark .disable/\s.act≠ .mark .enable:=fun s d=>by
  rw[<-hu4]at d;simp at d;rcases d with rfl|rfl|rfl|rfl<;>simp[aR]
 have N:TP X (pK S M) Wg C c (stA Wg) p v.heap.size<|(t++bD c b.frame.fn b.frame.place es)++u4:=by
  have bg:u4=#[u4.getD 0 default]++#[u4.getD 1 default]++#[u4.getD 2 default]++#[u4.getD 3 default]:=by rw[<-hu4];rfl
  rw[bg,<-Zs,<-Zs,<-Zs];rw[<-hu4];exact(((bf.push (by simp[aR])<|by simp).push (by simp[aR])<|by simp).push (by simp[aR])<|by simp).push (by simp[aR])<|by simp
 have E:∀j,j≠c->Deaf (t++(bD c b.frame.fn b.frame.place es++u4)) j=Deaf t j:=fun j R=>by
  rw[<-Zs,Nt fun s d=>(L s d).2,aG t (aL R) _ fZ]
 refine⟨_,v',_,m',_,a,⟨h.pos,by simp[h.size],by simp[J],fun i g hi V hg=>?_,fun j R=>?_,Y,I, ?_, ?_,by omega,e3, ?_,fun x y=>by omega,fun x=>by have:=h.kG x;omega, ?_, ?_, ?_,fun x=>by omega,by have:=h.pt;simp;omega⟩, ?_, ?_,bb,bh⟩;rw[zd<|by omega,zd<|by omega]at hg;rw[E i<|by omega];exact h.old i g hi V hg;rw[E j<|by omega];exact h.above j R;obtain⟨cs,e,hs⟩:=h.pay;exact⟨cs,(f D<|B.cs D<|.inl B.sd).trans e,hs⟩;rw[show decide (9+vs.length<=8)=bK by simp;omega,e2,<-hv'];show(v.heap.setIfInBounds C _)[C]?=_;have Z:(vals.take<|vals.length-(v0::vs).length).drop r=[]:=Yp (by simp only[xt];omega);have ba:(vals.take<|vals.length-(v0::vs).length+1).drop (r+1)=[]:=Yp (by simp only[xt];omega);rw[Z,ba];simp[T];rw[show iE rg (9+vs.length)=iE rg (10+vs.length)from JV (by omega)<|by omega,show gM rg (9+vs.length)=gM rg (10+vs.length)from JU (by omega)<|by omega];exact h.wg.of_block<|f Wg B.wc;rw[be,<-Zs];exact N;rw[E 0<|aL k];exact h.deaf0;rw[<-Zs,Nt fun s d=>(L s d).2,Deaf_own,h.eD,u_ H];rw[zd k];simp[K,recvd];rw[<-hv'];exact RP hS B.xc B.nc n
end
section
variable [Payload] {P:aV} {ty:TypeId} {Wg C:Nat} {S:Nat->Prop} {D M c:Nat} {vals:List Value} {o:Nat->Obj} {X:Nat->Prop} {p rg r:Nat}
variable {d st m:Nat} {left:List Value} {b g0:aS} {q:Nat->Nat} {gs:Array aS} {v:World} {t:Trace} {sl:Option<|Nat×Nat}
structure xJ(P:Zp)(C:Nat)(z:Zv)(g₂ g:Zg):Prop where
 run:g.status= .running
 dy:g.dying=bN
 st:∀v,aZ P bL g v= .comm g₂ #[rcase C z] bL (.recv bL) v #[]
def Ch.closed(h:Ch P ty Wg C S D M o d st m left b v)(a:st<=8):left=[]:=by
 cases h<;>first|rfl|omega
def Sc(B:q9 X Wg C S D M){z:Zv}{g₂:Zg}(bh:xJ P C z g₂ {parked g₂ #[rcase C z] (.recv bL)with status:= .running}){k:Nat×Nat}
  (ih:∀k',vV k' k->(∀gs v sl t g,xJ P C z g₂ g->JC P ty Wg C S D M c vals o X p rg r k' gs v t->gs[0]?=bO g->Sm P X (re w v.tape v.drawn) v->wZ P ty Wg C S D M c vals o X p rg r g₂ z (crowd gs v sl) t w)/\
   (∀d st m left b q gs v sl t,k'=(st,m+sumTo c q)->dU P ty Wg C S D M c vals o X p rg r d st m left b q gs v t->9<=st->¬r<vals.length-left.length->gs[0]?=bO (parked g₂ #[rcase C z]<|.recv bL)->Sm P X (re w v.tape v.drawn) v->wZ P ty Wg C S D M c vals o X p rg r g₂ z (crowd gs v sl) t w))
  (hk:k=(st,m+sumTo c q))(h:dU P ty Wg C S D M c vals o X p rg r d st m left b q gs v t)(h9:9<=st)(hr:¬r<vals.length-left.length)(L:gs[0]?=bO (parked g₂ #[rcase C z]<|.recv bL))(hS:Sm P X (re w v.tape v.drawn) v):
  wZ P ty Wg C S D M c vals o X p rg r g₂ z (crowd gs v sl) t w:=by
 have bg:c≠0:=Xh h.pos;have E:b.status= .running:=by
  cases h.ch with
  |send h=>exact qr (fun _ _ x=>x.1) (fun _ x=>x) h
  |cls h=>exact qr (fun _ _ x=>x.1) (fun _ x=>x) h
  |_=>omega
 have ba:=h.chan;rw[show decide (st<=8)=bK by simp;omega]at ba;have hw:∀(a Q:Zg) (y:Nat),woken P a Q (v.at y) (parked g₂ #[rcase C z]<|.recv bL)=parked g₂ #[rcase C z] (.recv bL):=fun a Q y=>woken_recv_open a Q ba;have bf:∀g∈gs,awake g:=by
  intro g1 I;obtain⟨i,N,rfl⟩:=Z1.1 I;have F:gs[i]?=bO gs[i]:=xg N;rcases jl i with rfl|bd
  rw[L]at F;rw[<-jf F];exact awake_of<|.inr<|.inl rfl;by_cases e:i=c;subst e;rw[h.hb]at F;rw[<-jf F];exact awake_of<|.inl E;have:i<c:=by have:=h.size;omega
  exact awake_of<|(h.old i _ bd this F).status.elim .inl fun x=> .inr (.inr x)
 obtain⟨i,g1,y,l,N,I,bi⟩:=crowd_pick (P:=P) (w:=v) (sl:=sl) bf ⟨c,b,h.hb,E⟩;have hd:=VH B h y;have H:Sm P X (re w (v.at y).tape (v.at y).drawn)<|v.at y:=hS.re _ y;have J:∀{m1:Machine} {j:Trace},runT P (crowd gs (v.at y) l) i=(.next m1,j)->runNT P 1 (crowd gs v sl) t=(.next m1,t++j):=fun {m1 j} e=>by simp only[runNT,bi,e]
 have bk:i≠0:=by
  rintro rfl;rw[L]at N;cases N;cases I
 have bj:i<c+1:=by have:=(za.1 N).1;rwa[h.size]at this
 by_cases e:i=c;subst e;rw[h.hb]at N;cases N;have O:∀{d' K:Nat} {f:Ze},TN P ty Wg C S D M i vals o X p rg r (parked g₂ #[rcase C z]<|.recv bL) st m q gs (v.at y) l t d' K f->9<=K->f=left->wZ P ty Wg C S D M i vals o X p rg r g₂ z (crowd gs v sl) t w:=fun {d' K f} hN be hl=>by
  obtain⟨W,v',bl,j,m',b',R,Y,⟨V,T,U,_⟩,G,Z,_⟩:=hN;subst hl;have:V=parked g₂ #[rcase C z] (.recv bL):=by
   rcases U with e|⟨a,Q,e⟩;exact e;have bc:=G.chan;rw[show decide (K<=8)=bK by simp;omega]at bc;rw[e];exact woken_recv_open a Q bc
  subst this;exact .step (J R)<|(ih _<|by rw[hk];exact Y).2 _ _ _ _ _ _ _ _ _ _ rfl G be hr T<|Z w H
 have bb:=hd.ch;cases bb with
 | @send v0 vs m b w hG=>
  rcases Yl (fun _ x=>x) hG with hs|⟨n,b',v',es,rfl,hs,hD,hG'⟩;obtain⟨W,v',j,m',b',R,Y,T,G,Z,a6⟩:=rI (sl:=l) B hd hr L hs H;refine⟨1,W,v',l,_,(9+vs.length,m'+sumTo i q),J R, ?_, ?_,G⟩;rw[vO,aA Z];exact⟨_,_,_,_,_,_,Y,rfl⟩;rw[got,aA Z,a6];exact T;exact O (LJ B hd L hs hD (.send hG') (by omega)<|by omega) (by omega) rfl
 |cls hG=>
  rcases Yl (fun _ x=>x) hG with hs|⟨n,b',v',es,rfl,hs,hD,hG'⟩;obtain⟨b',m',R,Y,T,G,Z⟩:=Ud (sl:=l) B hd L hs;refine .step (J R)<|(ih _<|by rw[hk];exact .left _ _<|by omega).1 _ _ _ _ _ bh ⟨_,_,_,_,_,_,G,rfl⟩ ?_<|Z w H;rw[zd bg,jj,L];simp only[js,zp];unfold woken;rw[aA<|by simp[T,Y]];refine again_recv_closed (cap:=vals.length) (buf:=((vals.take<|vals.length-([]:Ze).length).drop r).toArray) (s:=vals.length-([]:Ze).length) (r:=r) (tm:=bK) ?_;have:=G.chan;exact this;exact O (LJ B hd L hs hD (.cls hG') (by omega)<|by omega) (by omega) rfl
 |_=>omega
 obtain⟨W,j,q',R,Y,⟨V,T,U⟩,G,_⟩:=YQ (sl:=l) hd L (by omega) (by omega) N I;have:V=parked g₂ #[rcase C z] (.recv bL):=by
  rcases U with e|⟨a,Q,e⟩;exact e;rw[e];exact hw a Q y
 subst this;exact .step (J R)<|(ih _<|by rw[hk];exact .right _<|by omega).2 _ _ _ _ _ _ _ _ _ _ rfl G h9 hr T H
def Fc(B:q9 X Wg C S D M){z:Zv}{g₂:Zg}(V:xJ P C z g₂ {parked g₂ #[rcase C z] (.recv bL)with status:= .running})(k:Nat×Nat):
  (∀gs v sl t g,xJ P C z g₂ g->JC P ty Wg C S D M c vals o X p rg r k gs v t->gs[0]?=bO g->Sm P X (re w v.tape v.drawn) v->wZ P ty Wg C S D M c vals o X p rg r g₂ z (crowd gs v sl) t w)/\
   (∀d st m left b q gs v sl t,k=(st,m+sumTo c q)->dU P ty Wg C S D M c vals o X p rg r d st m left b q gs v t->9<=st->¬r<vals.length-left.length->gs[0]?=bO (parked g₂ #[rcase C z]<|.recv bL)->Sm P X (re w v.tape v.drawn) v->wZ P ty Wg C S D M c vals o X p rg r g₂ z (crowd gs v sl) t w):=by
 induction k using BO.induction with
 |_ k ih=>
  refine⟨fun gs v sl t g G hJ n hS=>?_,fun d st m left b q gs v sl t hk h h9 I n hS=>Sc B V ih hk h h9 I n hS⟩;have ba:∀g∈gs,awake g:=by
   intro Q H;obtain⟨i,K,rfl⟩:=Z1.1 H;rcases jl i with rfl|f
   have:gs[0]=g:=by simpa[xg K]using n
   rw[this];exact awake_of<|.inl G.run;exact(Yi B).awake k gs v t hJ i _ f<|xg K
  obtain⟨i,Q,s,a,K,H,bd⟩:=crowd_pick (P:=P) (w:=v) (sl:=sl) ba ⟨0,g,n,G.run⟩;have R:=(Yi B).drawn k gs v t s hJ;have y:Sm P X (re w (v.at s).tape (v.at s).drawn)<|v.at s:=hS.re _ s;have E:∀{m1:Machine} {F:Trace},runT P (crowd gs (v.at s) a) i=(.next m1,F)->runNT P 1 (crowd gs v sl) t=(.next m1,t++F):=fun {m1 F} e=>by simp only[runNT,bd,e]
  rcases jl i with rfl|f;obtain rfl:Q=g:=by rw[n]at K;exact(jf K).symm
  obtain⟨d,st,m,left,b,q,h,hk⟩:=R;by_cases I:r<vals.length-left.length;obtain⟨x,v',t',L,N,O,W⟩:=Fd (sl:=a) B h n (G.st _) I y;have l:r<vals.length:=by omega
  refine⟨1,x,v',a,_,(st,m+sumTo c q),E L, ?_, ?_,W⟩;rw[vO,aA l];exact⟨_,_,_,_,_,_,N,rfl⟩;rw[got,aA l];exact O;by_cases Y:st<=8;obtain⟨x,t',L,N,O⟩:=zyf (sl:=a) B h n (G.st _) I Y;have hl:=h.ch.closed Y;have l:¬r<vals.length:=by rw[hl]at I;simpa using I
  refine⟨1,x,v.at s,a,_,(st,m+sumTo c q),E L, ?_, ?_,y⟩;rw[vO,aB l];exact⟨_,_,_,_,_,_,N,rfl⟩;rw[got,aB l];exact O;have he:((vals.take<|vals.length-left.length).drop r).toArray=#[]:=by
   have:((vals.take<|vals.length-left.length).drop r)=[]:=Yp (by simp;omega);rw[this]
  have U:=h.chan;rw[he,show decide (st<=8)=bK by simpa using Y]at U;have J:=crowd_waits (sl:=a) n (G.st _) (fun cc T=>by
   simp at T;subst T;exact ways_recv_none U<|YS h bL)
  have bb:0<gs.size:=(za.1 n).1;have Z:dU P ty Wg C S D M c vals o X p rg r d st m left b q (gs.setIfInBounds 0<|parked g₂ #[rcase C z]<|.recv bL) (v.at s) (t++bD 0 Q.frame.fn Q.frame.place #[]):=
   h.recv B (by simp) (fun j hj=>by rw[zd<|aL hj]) fZ (fun op bc=>by simp[ofEvents_eq]at bc) (fun _ _=>rfl) rfl h.chan h.nV
  exact .step (E J)<|Sc B V ih hk Z (by omega) I (by simp[bb]) y;obtain⟨x,v',be,F,k',L,N,O,W,a5⟩:=(Yi B).other k gs (v.at s) t i Q g a R f K H n G.run G.dy;exact .step (E L)<|(ih k' N).1 _ _ _ _ _ G W O<|a5 w y
end
section
variable [Payload] (P:aV) (ty:TypeId) (Wg:Nat) (Out:aS->Prop)
def R0(ty:Zt)(Wg:Nat)(w w₁:Zy):Prop:=WgLive ty Wg w->WgLive ty Wg w₁
def tN(Stop:Zg->Zy->Prop)(g:Zg):Prop:=∀w,WgLive ty Wg w->∃m,Goes P bL (R0 ty Wg) DC0 Stop m g w
def Ff(g:Zg)(_w:Zy):Prop:=g.status= .running/\Out g
def Fe(g:Zg)(w:Zy):Prop:=g.status= .running/\∃g',aZ P bL g w= .go g' w #[mk<|.acquire<|stA Wg]/\tN P ty Wg (Ff Out) g'
def OO(g:Zg)(w:Zy):Prop:=g.status= .running/\∃g',aZ P bL g w= .go g' w #[mk .enable]/\tN P ty Wg (Fe P ty Wg Out) g'
def Gl(g:Zg)(w:Zy):Prop:=g.status= .running/\(WgAt ty Wg w 0 0->∃g',aZ P bL g w= .go g' w #[rd<|stA Wg]/\tN P ty Wg (OO P ty Wg Out) g')
def Gj(g:Zg)(w:Zy):Prop:=g.status= .running/\g.offers=bN/\((∃s,WgAt ty Wg w s 0)->aZ P bL g w= .go {g with status:= .blocked} w #[])/\
 (WgAt ty Wg w 0 1->∃g',aZ P bL g w= .go g' (w.setCell (smA Wg)<|zu 0) (semEvents<|smA Wg)/\tN P ty Wg (Gl P ty Wg Out) g')
def Gm(g:Zg)(w:Zy):Prop:=g.status= .running/\∃g',aZ P bL g w= .go g' w #[⟨.mark<|.write<|smA Wg,bK,bL⟩]/\tN P ty Wg (Gj P ty Wg Out) g'
def VU(g:Zg)(w:Zy):Prop:=g.status= .running/\(WgAt ty Wg w 0 0->∃g',aZ P bL g w= .go g' w #[rd<|stA Wg]/\tN P ty Wg (OO P ty Wg Out) g')
def Gi(g:Zg)(w:Zy):Prop:=g.status= .running/\(WgAt ty Wg w KK 0->∃g',aZ P bL g w= .go g' (w.setCell (stA Wg)<|.int .u64<|KK+1) #[rd<|stA Wg,wr<|stA Wg]/\tN P ty Wg (Gm P ty Wg Out) g')/\
 (WgAt ty Wg w 0 0->∃g',aZ P bL g w= .go g' w #[rd<|stA Wg]/\tN P ty Wg (VU P ty Wg Out) g')
def WK(g:Zg)(w:Zy):Prop:=g.status= .running/\(WgAt ty Wg w KK 0->∃g',aZ P bL g w= .go g' w #[rd<|stA Wg]/\tN P ty Wg (Gi P ty Wg Out) g')/\
 (WgAt ty Wg w 0 0->∃g',aZ P bL g w= .go g' w #[rd<|stA Wg]/\tN P ty Wg (OO P ty Wg Out) g')
def Gh(g:Zg)(w:Zy):Prop:=g.status= .running/\∃g',aZ P bL g w= .go g' w #[mk .disable]/\tN P ty Wg (WK P ty Wg Out) g'
inductive W0:Nat->Nat->Nat->Nat->Zg->Zy->Prop
 |kd {st m g w} (h:Goes P bL (R0 ty Wg) DC0 (Gh P ty Wg Out) m g w):W0 9 0 st m g w
 |w1 {st m g w} (h:Goes P bL (R0 ty Wg) DC0 (WK P ty Wg Out) m g w):W0 8 4 st m g w
 |w2 {st m g w} (h:Goes P bL (R0 ty Wg) DC0 (Gi P ty Wg Out) m g w):W0 7 4 st m g w
 |w1b {m g w} (h:Goes P bL (R0 ty Wg) DC0 (VU P ty Wg Out) m g w):W0 6 4 1 m g w
 |wr {st m g w} (h:Goes P bL (R0 ty Wg) DC0 (Gm P ty Wg Out) m g w):W0 5 1 st m g w
 |w3 {st m g w} (h:Goes P bL (R0 ty Wg) DC0 (Gj P ty Wg Out) m g w):W0 4 1 st m g w
 |w4 {m g w} (h:Goes P bL (R0 ty Wg) DC0 (Gl P ty Wg Out) m g w):W0 3 2 1 m g w
 |ke {rg m g w} (hrg:rg=4\/rg=2) (h:Goes P bL (R0 ty Wg) DC0 (OO P ty Wg Out) m g w):W0 2 rg 1 m g w
 |acq {m g w} (h:Goes P bL (R0 ty Wg) DC0 (Fe P ty Wg Out) m g w):W0 1 0 1 m g w
 |fin {m g w} (h:Goes P bL (R0 ty Wg) DC0 (Ff Out) m g w):W0 0 0 1 m g w
end
section
variable [Payload] {P:aV} {ty:TypeId} {Wg C:Nat} {S:Nat->Prop} {D M c:Nat} {vals:List Value} {o:Nat->Obj} {X:Nat->Prop} {p rg r:Nat} {Out:aS->Prop}
variable {d st m:Nat} {left:List Value} {b g0:aS} {q:Nat->Nat} {gs:Array aS} {v:World} {t:Trace} {sl:Option<|Nat×Nat}
def W0.rely{s0 st m0:Nat}{g:Zg}{w w₁:Zy}(h:W0 P ty Wg Out s0 rg st m0 g w)(j:WgLive ty Wg w₁):W0 P ty Wg Out s0 rg st m0 g w₁:=by
 have e:∀a b c,R0 ty Wg a b->R0 ty Wg b c->R0 ty Wg a c:=fun _ _ _ f i x=>i<|f x;have d:R0 ty Wg w w₁:=fun _=>j;cases h with
 |kd h=>exact .kd<|h.rely e d
 |w1 h=>exact .w1<|h.rely e d
 |w2 h=>exact .w2<|h.rely e d
 |w1b h=>exact .w1b<|h.rely e d
 |wr h=>exact .wr<|h.rely e d
 |w3 h=>exact .w3<|h.rely e d
 |w4 h=>exact .w4<|h.rely e d
 |ke hrg h=>exact .ke hrg<|h.rely e d
 |acq h=>exact .acq<|h.rely e d
 |fin h=>exact .fin<|h.rely e d
def zq8{R:Zy->Zy->Prop}(b:∀g w,Stop g w->g.status= .running)(a:∀w,R w w){m:Nat}{g:Zg}(h:Goes P bL R Dd Stop m g w):g.status= .running:=by
 cases m with
 |zero=>exact b _ _<|h w<|a w
 |succ m=>
  rcases h with h|⟨h,_⟩;exact b _ _<|h w<|a w;exact h
def W0.run{s0 st m0:Nat}{g:Zg}(h:W0 P ty Wg Out s0 rg st m0 g w):g.status= .running:=by
 cases h<;>rename_i h<;>exact zq8 (fun _ _ x=>x.1) (fun _ x=>x) h
def Yt{R:Zy->Zy->Prop}(a:∀w,R w w){m:Nat}{g:Zg}(h:Goes P bL R Dd Stop m g w):
  Stop g w\/∃m' g' w' es,m=m'+1/\aZ P bL g w= .go g' w' es/\Dd w w' es/\Goes P bL R Dd Stop m' g' w':=by
 cases m with
 |zero=>exact .inl<|h w<|a w
 |succ m=>
  rcases h with h|⟨_,h⟩;exact .inl<|h w<|a w;right;have:=h w<|a w;cases hs:aZ P bL g w with
  |go g' w' es=>
   rw[hs,goes_go]at this;exact⟨m,g',w',es,rfl,rfl,this⟩
  |_=>rw[hs]at this;exact this.elim
def Ch.pos(h:Ch P ty Wg C S D M o d st m left b v):1<=st:=by
 cases h<;>omega
def dU.own0(B:q9 X Wg C S D M)(h:dU P ty Wg C S D M c vals o X p rg r d st m left b q gs v t)(h0:gs[0]?=bO g0){g':Zg}{x y:Int}{rg':Nat}
  (E:∀e∈es,(∀z,(aU e).touch?=bO z->qX Wg z.loc/\(z.kind= .atomic\/z.kind= .said))/\∀a,e.loc≠ .mark (.release a))(hx:iE rg' st=x)(hy:gM rg' st=y)(N:1<st->st<5->rg'=1)(O:xU rg'->st<=1)(hd:deafBehind (e0 rg) es=e0 rg'):
  dU P ty Wg C S D M c vals o X p rg' r d st m left b q ((gs.map<|woken P g0 g' {v with heap:=v.heap.setIfInBounds Wg<|wgBlock ty x y}).setIfInBounds 0 g') {v with heap:=v.heap.setIfInBounds Wg<|wgBlock ty x y} (t++bD 0 g0.frame.fn g0.frame.place es):=by
 have n:c≠0:=Xh h.pos;have w:Wg<v.heap.size:=(za.1 h.wg).1;have l:∀z,z≠Wg->(v.heap.setIfInBounds Wg<|wgBlock ty x y)[z]?=v.heap[z]?:=fun z k=>by
  rw[zd<|aL k]
 have Q:(v.heap.setIfInBounds Wg<|wgBlock ty x y).size=v.heap.size:=by simp
 have G:WgAt ty Wg {v with heap:=v.heap.setIfInBounds Wg<|wgBlock ty x y} x y:=by
  show(v.heap.setIfInBounds Wg<|wgBlock ty x y)[Wg]?=_;simp[w]
 have I:∀z,S z\/z=M->(v.heap.setIfInBounds Wg<|wgBlock ty x y)[z]?=v.heap[z]?:=fun z k=>l z<|B.ws z k;have F:∀s∈bD 0 g0.frame.fn g0.frame.place es,∀z,s.act.touch?=bO z->qX Wg z.loc/\(z.kind= .atomic\/z.kind= .said):=fun s f z k=>by
  obtain⟨e,K,rfl⟩:=zy f;exact(E e K).1 z k
 refine⟨h.pos,by simp[h.size], ?_,fun i g U L H=>?_,fun j hj=>?_,h.ch.rely h.kc B.sd I ⟨_,_,G⟩,fun z k=>(I z k).trans<|h.kc z k, ?_,(l C<|aL B.wc).trans h.chan,h.nV,h.lefts,by rw[hx,hy];exact G,N,O, ?_,by rw[Deaf_own,h.deaf0];exact hd, ?_,fun h6=>?_,by have:=h.pt;simp;omega⟩;rw[zd<|aL n,jj,h.hb];simp only[js,zp];rcases h.ch.awake with e|e
 exact woken_run e;cases h.ch with
 |out hq2=>exact woken_quitsD hq2
 |_=>
  rename_i hG
  first
   |(have:=qr (fun _ _ x=>x.1) (fun _ x=>x) hG;rw[e]at this;cases this)
   |(have:=qr (fun _ _ x=>x.1) Y9 hG;rw[e]at this;cases this)
 rw[zd<|by omega,jj]at H;obtain⟨y,hy,rfl⟩:=zt.1 H;have V:=h.old i y U L hy;rw[woken_quitsD V,aG t (g':=0) (by omega) _ fZ];exact V;rw[aG t (g':=0) (by omega) _ fZ];exact h.above j hj;obtain⟨Y,e,hs⟩:=h.pay;exact⟨Y,(I D<|.inl B.sd).trans e,hs⟩;show TP X (pK S M) Wg C c (stA Wg) p (v.heap.setIfInBounds Wg<|wgBlock ty x y).size _;rw[Q];refine h.tp.app B.apart (.inl rfl) fZ (fun s f z k hm=>?_) (fun s f z k=>?_) (fun s f e=>?_) BI;obtain⟨k1,k2⟩:=F s f z k;exact .inr<|.inl ⟨k1,k2.imp id fun x=>⟨x,rfl⟩⟩;obtain⟨⟨W,e,J⟩,_⟩:=F s f z k;rw[e];show W.block<_;rw[J];exact w;obtain⟨Z,K,rfl⟩:=zy f;exact(E Z K).2 _<|Wc e;rw[aG t (g':=0) (aL n) _ fZ];exact h.eD;obtain⟨rr,hp,hr⟩:=h.rel h6;refine⟨rr,hp,hr.app fun i U H _=>?_⟩;obtain⟨z,k,R⟩:=zt.1 H;rcases getElem?_append_cases k with⟨ba,_⟩|⟨_,T⟩
 omega;exact n<|R.symm.trans<|fZ z T
end
section
variable [Payload] {P:aV} {ty:TypeId} {Wg C:Nat} {S:Nat->Prop} {D M c:Nat} {vals:List Value} {o:Nat->Obj} {X:Nat->Prop} {p rg r:Nat} {Out:aS->Prop}
variable {d st m:Nat} {left:List Value} {b g:aS} {q:Nat->Nat} {gs:Array aS} {v:World} {t:Trace} {sl:Option<|Nat×Nat}
def GK(Wg:Nat)(es:Array Event):Prop:=∀e∈es,(∀z,(aU e).touch?=bO z->qX Wg z.loc/\(z.kind= .atomic\/z.kind= .said))/\∀a,e.loc≠ .mark (.release a)
def a_(B:q9 X Wg C S D M)(h:dU P ty Wg C S D M c vals o X p rg r d st m left b q gs v t)(a:gs[0]?=bO g){g':Zg}{x y:Int}{rg':Nat}(k:aZ P bL g v= .go g' {v with heap:=v.heap.setIfInBounds Wg<|wgBlock ty x y} es)
  (e:GK Wg es)(hx:iE rg' st=x)(hy:gM rg' st=y)(i:1<st->st<5->rg'=1)(j:xU rg'->st<=1)(hd:deafBehind (e0 rg) es=e0 rg'):
  ∃gs',runT P (crowd gs v sl) 0=(.next<|crowd gs' {v with heap:=v.heap.setIfInBounds Wg<|wgBlock ty x y} sl,bD 0 g.frame.fn g.frame.place es)/\gs'[0]?=bO g'/\
   dU P ty Wg C S D M c vals o X p rg' r d st m left b q gs' {v with heap:=v.heap.setIfInBounds Wg<|wgBlock ty x y} (t++bD 0 g.frame.fn g.frame.place es)/\∀w,Sm P X (re w v.tape v.drawn) v->Sm P X (re w v.tape v.drawn) {v with heap:=v.heap.setIfInBounds Wg<|wgBlock ty x y}:=by
 have f:0<gs.size:=(za.1 a).1;exact⟨_,runT_crowd_go a k,by simp[f],h.own0 B a e hx hy i j hd,fun w l=>Fy l B.xw B.nw h.wg x y⟩
def V5(B:q9 X Wg C S D M)(h:dU P ty Wg C S D M c vals o X p rg r d st m left b q gs v t)(s:gs[0]?=bO g){g':Zg}{rg':Nat}(j:aZ P bL g v= .go g' v es)
  (a:GK Wg es)(hx:iE rg' st=iE rg st)(hy:gM rg' st=gM rg st)(f:1<st->st<5->rg'=1)(i:xU rg'->st<=1)(hd:deafBehind (e0 rg) es=e0 rg'):
  ∃gs',runT P (crowd gs v sl) 0=(.next<|crowd gs' v sl,bD 0 g.frame.fn g.frame.place es)/\gs'[0]?=bO g'/\dU P ty Wg C S D M c vals o X p rg' r d st m left b q gs' v (t++bD 0 g.frame.fn g.frame.place es):=by
 have e:=SE h.wg;obtain⟨gs',k,n,l,_⟩:=a_ (sl:=sl) (rg':=rg') (x:=iE rg st) (y:=gM rg st) B h s (by rw[e];exact j) a hx hy f i hd;rw[e]at k l;exact⟨gs',k,n,l⟩
def Bv:GK Wg #[]:=fun e a=>by simp at a
def r9{m':Mark}(c:(MemAct.mark m').touch?=bN)(d:∀a,m'≠ .release a):GK Wg #[mk m']:=fun e b=>by
 simp at b;subst b;refine⟨fun z f=>?_,fun a e=>?_⟩;have:(MemAct.mark m').touch?=bO z:=f;rw[c]at this;cases this;cases e;exact d a rfl
def DZ(b:∀e∈es,∃a w,e=(⟨.cell a,w,bL⟩:Event)/\a.block=Wg):GK Wg es:=fun e d=>by
 obtain⟨a,w,rfl,c⟩:=b e d;exact⟨fun z f=>by obtain⟨g,h⟩:=RL c f;exact⟨g,.inl h⟩,fun a=>by simp⟩
def Jn(Wg c p:Nat)(t:Trace):Prop:=∃rr q',p<=rr/\Rel (stA Wg) c t rr/\t.act? q'=bO (.mark<|.acquire<|stA Wg)/\t.g? q'=bO 0/\t.heard q'/\rr<q'
variable (P ty Wg C S D M c vals o X p r Out)in
def Fg(d st m:Nat)(left:Ze)(b:Zg)(q:Nat->Nat)(s0 m0:Nat)(gs:Array Zg)(v:Zy)(sl:Option<|Nat×Nat)(t:Trace):Prop:=
 ∃gs' v' ops s0' m0' fl rg' g',runT P (crowd gs v sl) 0=(.next<|crowd gs' v' sl,ops)/\dU P ty Wg C S D M c vals o X p rg' r d st m left b q gs' v' (t++ops)/\gs'[0]?=bO (if fl=0 then {g' with status:= .blocked}else g')/\
  (fl=1\/(fl=0/\s0'=4/\1<st/\g'.offers=bN))/\W0 P ty Wg Out s0' rg' st m0' g' v'/\(s0'=0->Jn Wg c p (t++ops))/\(s0'<s0\/(s0'=s0/\m0'+fl<m0+1))/\∀w,Sm P X (re w v.tape v.drawn) v->Sm P X (re w v'.tape v'.drawn) v'
def xmw(B:q9 X Wg C S D M)(h:dU P ty Wg C S D M c vals o X p rg r d st m left b q gs v t)(N:gs[0]?=bO g){s0 m0:Nat}(hw:W0 P ty Wg Out s0 rg st m0 g v)(hj:s0=0->Jn Wg c p t):
  (s0=0/\Out g)\/Fg P ty Wg C S D M c vals o X p r Out d st m left b q s0 m0 gs v sl t:=by
 have k:WgLive ty Wg v:=⟨_,_,h.wg⟩;have bc:=h.ch.pos;have s:∀{n:Nat} {l:Zg} {K:Zy} {L:Array Event},m0=n+1->aZ P bL g v= .go l K L->DC0 v K L->W0 P ty Wg Out s0 rg st n l K->Fg P ty Wg C S D M c vals o X p r Out d st m left b q s0 m0 gs v sl t:=fun {n l K L} e f H Z=>by
  obtain⟨rfl,rfl⟩:=H;obtain⟨a,F,G,E⟩:=V5 (sl:=sl) B h N f Bv rfl rfl h.kH h.kG rfl;have e':t++bD 0 g.frame.fn g.frame.place #[]=t:=by simp[ofEvents_eq]
  exact⟨a,K,_,s0,n,1,rg,l,F,E,by simpa using G,.inl rfl,Z,fun x=>by rw[e'];exact hj x,.inr ⟨rfl,by omega⟩,fun w I=>I⟩
 cases hw with
 |kd hG=>
  right;rcases Yt (fun _ x=>x) hG with⟨_,l,f,j⟩|⟨n,l,K,L,rfl,f,H,hG'⟩
  obtain⟨J,j⟩:=j v k;obtain⟨a,F,G,E⟩:=V5 (sl:=sl) (rg':=4) B h N f (r9 rfl<|by simp) (by simp[iE]) (by simp[gM]) (fun x y=>by have:=h.kH x y;omega) (fun x=>absurd rfl x.2.2) (by simp[mk,deafBehind,e0]);exact⟨a,v,_,8,J,1,4,l,F,E,by simpa using G,.inl rfl,.w1 j,fun x=>by omega,.inl<|by omega,fun w I=>I⟩;exact s rfl f H<|.kd hG'
 |w1 hG=>
  right;rcases Yt (fun _ x=>x) hG with⟨_,hs1,hs2⟩|⟨n,l,K,L,rfl,f,H,hG'⟩
  by_cases T:st<=1;obtain rfl:st=1:=by omega
  obtain⟨l,f,j⟩:=hs2 h.wg;obtain⟨J,j⟩:=j v k;obtain⟨a,F,G,E⟩:=V5 (sl:=sl) (rg':=4) B h N f (DZ CP) rfl rfl h.kH h.kG (by simp[rd,deafBehind]);exact⟨a,v,_,2,J,1,4,l,F,E,by simpa using G,.inl rfl,.ke (.inl rfl) j,fun x=>by omega,.inl<|by omega,fun w I=>I⟩;have O:=h.wg;rw[show iE 4 st=KK by simp[iE,T],show gM 4 st=0 by simp[gM]]at O;obtain⟨l,f,j⟩:=hs1 O;obtain⟨J,j⟩:=j v k;obtain⟨a,F,G,E⟩:=V5 (sl:=sl) (rg':=4) B h N f (DZ CP) rfl rfl h.kH h.kG (by simp[rd,deafBehind]);exact⟨a,v,_,7,J,1,4,l,F,E,by simpa using G,.inl rfl,.w2 j,fun x=>by omega,.inl<|by omega,fun w I=>I⟩;exact s rfl f H<|.w1 hG'
 |w2 hG=>
  right;rcases Yt (fun _ x=>x) hG with⟨_,hs1,hs2⟩|⟨n,l,K,L,rfl,f,H,hG'⟩
  by_cases T:st<=1;obtain rfl:st=1:=by omega
  obtain⟨l,f,j⟩:=hs2 h.wg;obtain⟨J,j⟩:=j v k;obtain⟨a,F,G,E⟩:=V5 (sl:=sl) (rg':=4) B h N f (DZ CP) rfl rfl h.kH h.kG (by simp[rd,deafBehind]);exact⟨a,v,_,6,J,1,4,l,F,E,by simpa using G,.inl rfl,.w1b j,fun x=>by omega,.inl<|by omega,fun w I=>I⟩;have O:=h.wg;rw[show iE 4 st=KK by simp[iE,T],show gM 4 st=0 by simp[gM]]at O;have h5:5<=st:=by
   apply jr;intro j;have:=h.kH (by omega) (by omega);omega
  obtain⟨l,f,j⟩:=hs1 O;rw[QI O]at f;obtain⟨a,F,G,E,V⟩:=a_ (sl:=sl) (rg':=1) B h N f (DZ NR) (by simp[iE,h5]) (by simp[gM,T]) (fun _ _=>rfl) (fun x=>absurd rfl x.2.1) (by simp[rd,wr,deafBehind,e0]);obtain⟨J,j⟩:=j _ ⟨_,_,E.wg⟩;exact⟨a,_,_,5,J,1,1,l,F,E,by simpa using G,.inl rfl,.wr j,fun x=>by omega,.inl<|by omega,V⟩;exact s rfl f H<|.w2 hG'
 |w1b hG=>
  right;rcases Yt (fun _ x=>x) hG with⟨_,hs2⟩|⟨n,l,K,L,rfl,f,H,hG'⟩
  obtain⟨l,f,j⟩:=hs2 h.wg;obtain⟨J,j⟩:=j v k;obtain⟨a,F,G,E⟩:=V5 (sl:=sl) (rg':=4) B h N f (DZ CP) rfl rfl h.kH h.kG (by simp[rd,deafBehind]);exact⟨a,v,_,2,J,1,4,l,F,E,by simpa using G,.inl rfl,.ke (.inl rfl) j,fun x=>by omega,.inl<|by omega,fun w I=>I⟩;exact s rfl f H<|.w1b hG'
 |wr hG=>
  right;rcases Yt (fun _ x=>x) hG with⟨_,l,f,j⟩|⟨n,l,K,L,rfl,f,H,hG'⟩
  obtain⟨J,j⟩:=j v k;obtain⟨a,F,G,E⟩:=V5 (sl:=sl) (rg':=1) B h N f (fun e U=>by
   simp at U;subst U;exact⟨fun z Q=>by
    simp only[aU,aR,zp]at Q;subst Q;exact⟨⟨_,rfl,rfl⟩,.inr rfl⟩,by simp⟩) rfl rfl h.kH h.kG<|by simp[deafBehind]
  exact⟨a,v,_,4,J,1,1,l,F,E,by simpa using G,.inl rfl,.w3 j,fun x=>by omega,.inl<|by omega,fun w I=>I⟩;exact s rfl f H<|.wr hG'
 |w3 hG=>
  right;rcases Yt (fun _ x=>x) hG with⟨hrun,hoff,hs1,hs2⟩|⟨n,l,K,L,rfl,f,H,hG'⟩
  by_cases T:st<=1;obtain rfl:st=1:=by omega
  have O:WgAt ty Wg v 0 1:=h.wg;obtain⟨l,f,j⟩:=hs2 O;rw[Pm O]at f;obtain⟨a,F,G,E,V⟩:=a_ (sl:=sl) (rg':=2) B h N f (fun e U=>by
   simp[semEvents]at U;rcases U with rfl|rfl|rfl|rfl
   exact⟨fun z Q=>by simp[aU,aR]at Q,by simp⟩;exact⟨fun z Q=>by obtain⟨k1,k2⟩:=RL (Wg:=Wg) rfl Q;exact⟨k1,.inl k2⟩,by simp⟩;exact⟨fun z Q=>by obtain⟨k1,k2⟩:=RL (Wg:=Wg) rfl Q;exact⟨k1,.inl k2⟩,by simp⟩;exact⟨fun z Q=>by simp[aU,aR]at Q,by simp⟩) rfl rfl (fun x=>by omega) (fun _=>by omega)<|by simp[semEvents,deafBehind,e0]
  obtain⟨J,j⟩:=j _ ⟨_,_,E.wg⟩;exact⟨a,_,_,3,J,1,2,l,F,E,by simpa using G,.inl rfl,.w4 j,fun x=>by omega,.inl<|by omega,V⟩;have O:=h.wg;rw[show gM 1 st=0 by simp[gM,T]]at O;have f:=hs1 ⟨_,O⟩;obtain⟨a,F,G,E⟩:=V5 (sl:=sl) (rg':=1) B h N f Bv rfl rfl h.kH h.kG rfl;exact⟨a,v,_,4,m0,0,1,g,F,E,by simpa using G,.inr ⟨rfl,rfl,by omega,hoff⟩,.w3 hG,fun x=>by omega,.inr ⟨rfl,by omega⟩,fun w I=>I⟩;exact s rfl f H<|.w3 hG'
 |w4 hG=>
  right;rcases Yt (fun _ x=>x) hG with⟨_,hs2⟩|⟨n,l,K,L,rfl,f,H,hG'⟩
  obtain⟨l,f,j⟩:=hs2 h.wg;obtain⟨J,j⟩:=j v k;obtain⟨a,F,G,E⟩:=V5 (sl:=sl) (rg':=2) B h N f (DZ CP) rfl rfl h.kH h.kG (by simp[rd,deafBehind]);exact⟨a,v,_,2,J,1,2,l,F,E,by simpa using G,.inl rfl,.ke (.inr rfl) j,fun x=>by omega,.inl<|by omega,fun w I=>I⟩;exact s rfl f H<|.w4 hG'
 |ke hrg hG=>
  right;rcases Yt (fun _ x=>x) hG with⟨_,l,f,j⟩|⟨n,l,K,L,rfl,f,H,hG'⟩
  obtain⟨J,j⟩:=j v k;obtain⟨a,F,G,E⟩:=V5 (sl:=sl) (rg':=0) B h N f (r9 rfl<|by simp) (by rcases hrg with rfl|rfl<;>rfl) (by rcases hrg with rfl|rfl<;>rfl) (fun x=>by omega) (fun x=>absurd rfl x.1) (by rcases hrg with rfl|rfl<;>simp[mk,deafBehind,e0]);exact⟨a,v,_,1,J,1,0,l,F,E,by simpa using G,.inl rfl,.acq j,fun x=>by omega,.inl<|by omega,fun w I=>I⟩;exact s rfl f H<|.ke hrg hG'
 |acq hG=>
  right;rcases Yt (fun _ x=>x) hG with⟨_,l,f,j⟩|⟨n,l,K,L,rfl,f,H,hG'⟩
  obtain⟨J,j⟩:=j v k;obtain⟨a,F,G,E⟩:=V5 (sl:=sl) (rg':=0) B h N f (r9 rfl<|by simp) rfl rfl h.kH h.kG (by simp[mk,deafBehind,e0]);refine⟨a,v,_,0,J,1,0,l,F,E,by simpa using G,.inl rfl,.fin j,fun _=>?_,.inl<|by omega,fun w I=>I⟩;obtain⟨rr,hp,W⟩:=E.rel (by omega);obtain⟨bf,_,be⟩:=h.rel (by omega);obtain⟨rr,hp,W⟩:=h.rel (by omega);have Y:rr<t.size:=lt_of_act? W.act;have R:(t++bD 0 g.frame.fn g.frame.place #[mk<|.acquire<|stA Wg])[t.size]?=bO {g:=0,fn:=g.frame.fn,pos:=g.frame.place,act:= .mark (.acquire<|stA Wg)}:=by
   simp[ofEvents_eq,mk,aU]
  refine⟨rr,t.size,hp,W.app fun i hi hg _=>?_,by rw[act?_of R],by simp[Trace.g?,R],⟨0,by simp[Trace.g?,R], ?_⟩,Y⟩;obtain⟨z,Q,ba⟩:=zt.1 hg;rcases getElem?_append_cases Q with⟨bd,_⟩|⟨_,bb⟩
  omega;exact Xh h.pos<|ba.symm.trans<|fZ z bb;rw[deaf_old<|ze _];exact h.deaf0;exact s rfl f H<|.acq hG'
 |fin hG=>
  rcases Yt (fun _ x=>x) hG with⟨_,ho⟩|⟨n,l,K,L,rfl,f,H,hG'⟩;exact .inl ⟨rfl,ho⟩;exact .inr<|s rfl f H<|.fin hG'
end
section
variable [Payload] {P:aV} {ty:TypeId} {Wg C:Nat} {S:Nat->Prop} {D M c:Nat} {vals:List Value} {o:Nat->Obj} {X:Nat->Prop} {p rg r:Nat} {Out:aS->Prop}
variable {d st m:Nat} {left:List Value} {b g:aS} {q:Nat->Nat} {gs:Array aS} {v:World} {t:Trace} {sl:Option<|Nat×Nat}
abbrev eC:Nat×Nat×Nat->Nat×Nat×Nat->Prop:=Prod.Lex (·<·) (Prod.Lex (·<·) (·<·))
def xrl:WellFounded eC:=(Prod.lex Nat.lt_wfRel<|Prod.lex Nat.lt_wfRel Nat.lt_wfRel).wf
variable (P ty Wg C S D M c vals o X p r Out)in
def JW(k:Nat×Nat×Nat)(gs:Array Zg)(v:Zy)(t:Trace):Prop:=
 ∃s0 m0 fl rg d st m left b q g,dU P ty Wg C S D M c vals o X p rg r d st m left b q gs v t/\gs[0]?=bO (if fl=0 then {g with status:= .blocked}else g)/\(fl=1\/(fl=0/\s0=4/\1<st/\g.offers=bN))/\
  W0 P ty Wg Out s0 rg st m0 g v/\(s0=0->Jn Wg c p t)/\k=(s0+st,m+sumTo c q,m0+fl)
variable (P ty Wg C S D M c vals o X p r Out)in
def TR(m:Machine)(t:Trace)(w:Zy):Prop:=
 ∃N gs' v' sl' t' d mm left b q g,runNT P N m t=(.next<|crowd gs' v' sl',t')/\dU P ty Wg C S D M c vals o X p 0 r d 1 mm left b q gs' v' t'/\gs'[0]?=bO g/\Out g/\Jn Wg c p t'/\Sm P X (re w v'.tape v'.drawn) v'
def TR.step{m m1:Machine}{t t1:Trace}{N:Nat}(h:runNT P N m t=(.next m1,t1))(k:TR P ty Wg C S D M c vals o X p r Out m1 t1 w):TR P ty Wg C S D M c vals o X p r Out m t w:=by
 obtain⟨f,a,s,e,n,d,l,left,b,q,g,i,j⟩:=k;exact⟨N+f,a,s,e,n,d,l,left,b,q,g,ql h i,j⟩
def W0.child{s0 st' m0:Nat}{w w₁:Zy}(h:W0 P ty Wg Out s0 rg st m0 g w)(a:WgLive ty Wg w₁)(b:st'<=st)(c:1<=st'):W0 P ty Wg Out s0 rg st' m0 g w₁:=by
 have h:=h.rely a;cases h with
 |kd h=>exact .kd h
 |w1 h=>exact .w1 h
 |w2 h=>exact .w2 h
 |w1b h=>
      obtain rfl:st'=1:=by omega
      exact .w1b h
 |wr h=>exact .wr h
 |w3 h=>exact .w3 h
 |w4 h=>
      obtain rfl:st'=1:=by omega
      exact .w4 h
 |ke hrg h=>
        obtain rfl:st'=1:=by omega
        exact .ke hrg h
 |acq h=>
      obtain rfl:st'=1:=by omega
      exact .acq h
 |fin h=>
      obtain rfl:st'=1:=by omega
      exact .fin h
def Ch.out1(h:Ch P ty Wg C S D M o d st m left b v)(a:st<=1):QuitsD P m d b:=by
 cases h<;>first|assumption|omega
def W0.four{st m0:Nat}(h:W0 P ty Wg Out 4 rg st m0 g w):rg=1:=by cases h;rfl
def W0.zero{st m0:Nat}(h:W0 P ty Wg Out 0 rg st m0 g w):st=1/\rg=0:=by cases h;exact⟨rfl,rfl⟩
def Jn.app{u:Trace}(h:Jn Wg c p t)(l:∀rr,Rel (stA Wg) c t rr->Rel (stA Wg) c (t++u) rr):Jn Wg c p<|t++u:=by
 obtain⟨rr,d,e,f,b,i,j,k⟩:=h;have a:d<t.size:=lt_of_act? b;exact⟨rr,d,e,l rr f,by rw[act?_old a];exact b,by rw[g?_old a];exact i,(heard_old a).2 j,k⟩
def Tv{fl:Nat}{a a':Zg}{v':Zy}{g0':Zg}(b:g.status= .running)(d:fl=1\/(fl=0/\g.offers=bN))(h:g0'=(if fl=0 then {g with status:= .blocked}else g)\/∃a a',g0'=woken P a a' v' (if fl=0 then {g with status:= .blocked}else g)):
  ∃fl',g0'=(if fl'=0 then {g with status:= .blocked}else g)/\(fl'=1\/fl'=0/\fl=0):=by
 rcases d with rfl|⟨rfl,c⟩;refine⟨1, ?_,.inl rfl⟩;rcases h with e|⟨a,a',e⟩;simpa using e;rw[e];simpa using woken_run b;rcases h with e|⟨a,a',e⟩;exact⟨0,e,.inr ⟨rfl,rfl⟩⟩;unfold woken at e;split at e;refine⟨1, ?_,.inl rfl⟩;rw[e];simpa using ConcR.again_blocked b c v';exact⟨0,e,.inr ⟨rfl,rfl⟩⟩
theorem Hv(B:q9 X Wg C S D M)(k:Nat×Nat×Nat):∀gs v sl t,JW P ty Wg C S D M c vals o X p r Out k gs v t->Sm P X (re w v.tape v.drawn) v->TR P ty Wg C S D M c vals o X p r Out (crowd gs v sl) t w:=by
 induction k using xrl.induction with
 |_ k ih=>
  intro gs v sl t hJ hS;obtain⟨s0,m0,V,rg,d,st,m,left,b,q,g,h,L,j,hw,hj,hk⟩:=hJ;have f:=hw.run;have y:V=1\/(V=0/\g.offers=bN):=j.imp id fun x=>⟨x.1,x.2.2.2⟩;have bk:V=0->b.status= .running:=fun e=>by
   have bg:1<st:=j.elim (fun x=>by omega) fun x=>x.2.2.1;cases h.ch with
   |out _=>omega
   |_=>
    rename_i hG
    first
     |exact qr (fun _ _ x=>x.1) (fun _ x=>x) hG
     |exact qr (fun _ _ x=>x.1) Y9 hG
  have bj:∀g∈gs,awake g:=by
   intro g1 z;obtain⟨i,H,rfl⟩:=Z1.1 z;have E:gs[i]?=bO gs[i]:=xg H;rcases jl i with rfl|F
   rw[L]at E;rw[<-jf E];split;exact awake_of<|.inr<|.inl rfl;exact awake_of<|.inl f;by_cases e:i=c;subst e;rw[h.hb]at E;rw[<-jf E];exact awake_of<|h.ch.awake.elim .inl fun x=> .inr (.inr x);have:i<c:=by have:=h.size;omega
   exact awake_of<|(h.old i _ F this E).status.elim .inl fun x=> .inr (.inr x)
  have Q:∃(i:Nat) (g:Zg),gs[i]?=bO g/\g.status= .running:=by
   rcases j with rfl|⟨rfl,_⟩;exact⟨0,g,by simpa using L,f⟩;exact⟨c,b,h.hb,bk rfl⟩
  obtain⟨i,g1,K,G,H,z,bg⟩:=crowd_pick (P:=P) (w:=v) (sl:=sl) bj Q;have hd:=VH B h K;have N:Sm P X (re w (v.at K).tape (v.at K).drawn)<|v.at K:=hS.re _ K;have R:=hw.rely (w₁:=v.at K) ⟨_,_,h.wg⟩;have U:∀{m1:Machine} {l:Trace},runT P (crowd gs (v.at K) G) i=(.next m1,l)->runNT P 1 (crowd gs v sl) t=(.next m1,t++l):=fun {m1 l} e=>by simp only[runNT,bg,e]
  have bm:i<c+1:=by have:=(za.1 H).1;rwa[h.size]at this
  have bl:offersAt (if V=0 then {g with status:= .blocked}else g) C bK=[]:=by
   rcases y with rfl|⟨rfl,bf⟩;exact offersAt_of_not_blocked (by simp[f]) _ _;simp[offersAt,bf]
  rcases jl i with rfl|F;have be:V=1:=by
   rcases j with x|⟨rfl,_⟩;exact x;rw[L]at H;cases H;cases z
  subst be;rcases xmw (sl:=G) B hd (by simpa using L) R hj with⟨rfl,ho⟩|⟨bd,v',l,s0',m0',s,rg',g',W,Y,Z,J,a5,a6,a7,a8⟩
  obtain⟨rfl,rfl⟩:=hw.zero;exact⟨0,gs,v,sl,t,d,m,left,b,q,g,rfl,h,by simpa using L,ho,hj rfl,hS⟩;refine .step (U W)<|ih _ ?_ _ _ _ _ ⟨s0',m0',s,rg',d,st,m,left,b,q,g',Y,Z,J,a5,a6,rfl⟩<|a8 w N;rw[hk];rcases a7 with x|⟨rfl,x⟩
  exact .left _ _ (by omega);exact .right _ (.right _<|by omega);by_cases e:i=c;subst e;rw[h.hb]at H;cases H;obtain⟨d',bi,T,bd,v',bn,l,m',b',W,Y,⟨bc,Z,I,ba⟩,J,a5,a6⟩:=Oi (sl:=G) B hd L bl z;have bh:bi<=st:=by
   cases Y with
   |left _ _ h=>omega
   |right _ h=>exact ze _
  obtain⟨s,e1,n⟩:=Tv (a:=g) (a':=g) f y I;have O:=J.ch.pos;refine .step (U W)<|ih _ ?_ _ _ _ _ ⟨s0,m0,s,rg,d',bi,m',T,b',q,g,J,by rw[Z,e1], ?_,R.child ⟨_,_,J.wg⟩ bh O,fun x=>(hj x).app<|a6<|by subst x;obtain⟨rfl,_⟩:=hw.zero;omega,rfl⟩<|a5 w N;rw[hk];cases Y with
  |left _ _ h=>exact .left _ _<|by omega
  |right _ h=>exact .right _<|.left _ _ h
  rcases n with n|⟨n,e3⟩;exact .inl n;right;obtain⟨rfl,h4,h5,h6⟩:V=0/\s0=4/\1<st/\g.offers=bN:=by
   rcases j with x|x;omega;exact x
  refine⟨n,h4, ?_,h6⟩;apply jr;intro hn;subst h4;obtain⟨bb,k1,k2,k3,k4⟩:=ba hw.four (by omega) h5;have k5:bc=g:=by
   rw[k4];unfold woken;rw[aA<|by simp[k1,k2,k3]];simpa using ConcR.again_blocked f h6 v'
  rw[e1,n]at k5;have:=congrArg Goroutine.status k5;rw[f]at this;simp at this;obtain⟨bd,l,q',W,Y,⟨bc,Z,I⟩,J,a6⟩:=YQ (sl:=G) hd L F (by omega) H z;obtain⟨s,e1,n⟩:=Tv (a:=g) (a':=g) f y I;refine .step (U W)<|ih _ ?_ _ _ _ _ ⟨s0,m0,s,rg,d,st,m,left,b,q',g,J,by rw[Z,e1], ?_,R,fun x=>(hj x).app a6,rfl⟩ N;rw[hk];exact .right _ (.left _ _<|by omega);rcases n with n|⟨n,e3⟩
  exact .inl n;rcases j with x|x
  omega;exact .inr ⟨n,x.2⟩
theorem zyz(B:q9 X Wg C S D M){X':ZP}(f:∀x,X x->¬(S x\/x=M)->X' x){mm:Nat}(h:dU P ty Wg C S D M c vals o X p 0 r d 1 mm left b q gs v t)(z:Jn Wg c p t)(J:∃g,gs[0]?=bO g):
  ∃k,JL P X' k gs v t:=by
 obtain⟨rr,K,j1,j2,j3,j4,j5,j6⟩:=z;have I:QuitsD P mm d b:=h.ch.out1<|ze _;refine⟨_,fun i=>if i=c then mm else q i,⟨fun i g G m=>?_,fun j z=>?_⟩,h.tp.join B.apart j2 j1 j3 j4 j5 j6 h.deaf0 (fun l n s=>?_) fun l n s=>?_,rfl⟩;have H:i<c+1:=by have:=(za.1 m).1;rwa[h.size]at this
 by_cases e:i=c;subst e;rw[h.hb]at m;cases m;simp only[if_true,h.eD];exact I;simp only[e,if_false];exact h.old i g G (by omega) m;exact h.above j (by have:=h.size;omega);obtain⟨a,e,F⟩:=n;exact⟨a,e,f _ F fun y=>s<|.inl ⟨a,e,y⟩⟩;obtain⟨E,e,w⟩:=n;exact⟨E,e,f _ w fun y=>s<|.inr ⟨E,e,y⟩⟩
end
end
end A
namespace A
open Go Go.Conc Go.RowKit Go.Conc.Lib Go.ConcR.Gen Go.ConcN.Gen
open Go.ConcN (WgLive)
open Go.ConcR (KK wgBlock WgAt stA smA rd wr mk Payload DC0)
variable [pn:Pn]
section
variable {cs:List Zf}
section
variable [Payload] {L:WgLink} {P:aV} {Wg:Nat} {Out:aS->Prop}
def zm{ty:Zt}{w w₁:Zy}(h:WgLive ty Wg w)(r:R0 ty Wg w w₁):WgLive ty Wg w₁:=r h
def YB{b c:Zf}{a:Act}{todo:List Item}{w:Zy}{fn:Func}(f:b.kind= .deferred)(hd:a.defers=[])(e:P.funcs[b.fn]?=bO fn)(d:fn.results=#[]):
  aZ P bL (G {b.at a todo with mode:= .returning} (c::cs)) w= .go (G {c with mode:=settle c.mode} cs) w:=by
 simp only[G,aZ,unwind,doReturn,Frame.at,f,hd,e,zg,results_none d _ P w,events_results_none d _ _,seen_none];unfold settle;split<;>(try split)<;>simp_all [GStep.after]
def _root_.Go.Conc.Goes.up{main:Bool}{Rl:Zy->Zy->Prop}{Dd:Zy->Zy->Array Event->Prop}{Stop:Zg->Zy->Prop}{n k:Nat}{g:Zg}{w:Zy}(h:Goes P main Rl Dd Stop n g w)(hk:n<=k):Goes P main Rl Dd Stop k g w:=by
 induction hk with
 |refl=>exact h
 |step _ ih=>exact ih.more
def Gg(L:WgLink)(Wg:Nat)(c:Zf)(cs:List Zf)(g:Zg):Prop:=
 ∃T:Za,g=G ((baseD L.wait).at ⟨T,[]⟩ [.code<|L7 L,.inLoop<|L7 L,.inBlock 0]) (c::cs)/\T.size=84/\T[0]?=bO (zo Wg)
def xn3(H:WgLib P L){c:Zf}(i:Out<|G {c with mode:=settle c.mode} cs){g:Zg}(j:Gg L Wg c cs g)(w:Zy)(a:WgLive L.tWg Wg w):Goes P bL (R0 L.tWg Wg) DC0 (VU P L.tWg Wg Out) 40 g w:=by
 lib_facts
 obtain⟨T,rfl,d,f⟩:=j;obtain⟨v0,v1,v2,v3,v4,v5,v6,v7,v8,v9,k,l,m,n,o,p,q,r,s,t,x,y,z,B,C,D,E,F,I,J,K,M,N,O,Q,R,S,U,V,W,X,Y,Z,ba,bb,bc,bd,be,bf,bg,bh,bi,bj,bk,bl,bm,bn,bo,bp,bq,br,bs,bt,bu,bv,bw,bx,bz,b0,b1,b2,b3,b4,b5,b6,b7,b8,b9,ca,cb,cc,cd,ce,cf,rfl⟩:=array84 T d;simp only[q8,Xl,zp]at f;subst f;simp only[L7,body_wait,waitFn,jv]
 u_c stepG_block zm a
 u_c aO zm a
 u_reg zm a
 iterate 3 (u_op zm a)
 u_call H.f_uLoad (nm_uLoad L) uLoadFn zm a
 iterate 9 (first|u_c aO zm a|u_reg zm a|u_c bB zm a|u_op zm a)
 refine Goes.stop fun h b=>?_;clear b a;refine⟨rfl,fun e=>?_⟩;refine⟨_,stepG_load_atomic (v:=0) rfl rfl (by k_ne) rfl H.f_loadU64 (x_loadU64_n L) (x_loadU64_b L) (x_loadU64_x L) .u64 (x_loadU64_f L) rfl e.cellSt,fun w a=>⟨60, ?_⟩⟩;clear e
 walk_nrm
 u_op zm a
 u_c bB zm a
 u_c stepG_ret' zm a
 u_leave1 H.f_uLoad zm a
 iterate 22 (first|u_c bB zm a|u_c aO zm a|u_reg zm a|u_op zm a)
 u_cond bL zm a
 u_c aO zm a
 u_cond bL zm a
 u_c aO zm a
 u_reg zm a
 refine Goes.stop fun h b=>?_;clear b a;refine⟨rfl,_,stepG_mark0 .enable (by simp) rfl rfl (by k_ne) rfl H.f_enable (x_enable_n L) (x_enable_b L) (x_enable_x L)<|x_enable_f L,fun w a=>⟨12, ?_⟩⟩
 walk_nrm
 u_c bB zm a
 u_reg zm a
 u_op zm a
 u_conv H.underlying_tWgP H.room_tWg (Go.ConcN.Gen.WgLive.cell0 a).choose_spec zm a
 refine Goes.stop fun h b=>?_;clear b a;refine⟨rfl,_,stepG_markAt .acquire (by simp) rfl rfl (by k_ne) rfl H.f_acquire (x_acquire_n L) (x_acquire_b L) (x_acquire_x L) (x_acquire_f L)<|by simp[Act.eval,stA],fun w a=>⟨40, ?_⟩⟩
 walk_nrm
 iterate 16 (first|u_c bB zm a|u_c aO zm a|u_reg zm a|u_skip zm a|u_op zm a)
 u_cond bK zm a
 u_c stepG_skip zm a
 u_c stepG_ret' zm a
 refine Goes.step rfl fun _ b=>?_;rw[YB rfl rfl H.f_wait rfl];simp only[goes_go];exact⟨⟨rfl,rfl⟩,Goes.stop fun _ _=>⟨rfl,i⟩⟩
def xn2(H:WgLib P L){c:Zf}(h:Out<|G {c with mode:=settle c.mode} cs){g:Zg}(k:Gg L Wg c cs g)(w:Zy)(a:WgLive L.tWg Wg w):Goes P bL (R0 L.tWg Wg) DC0 (WK P L.tWg Wg Out) 40 g w:=by
 lib_facts
 obtain⟨T,rfl,f,j⟩:=k;obtain⟨v0,v1,v2,v3,v4,v5,v6,v7,v8,v9,l,m,o,p,q,r,s,t,x,y,z,B,C,D,E,F,I,J,K,M,N,O,Q,R,S,U,V,W,X,Y,Z,ba,bb,bc,bd,be,bf,bg,bh,bi,bj,bk,bl,bm,bn,bo,bp,bq,br,bs,bt,bu,bv,bw,bx,bz,b0,b1,b2,b3,b4,b5,b6,b7,b8,b9,ca,cb,cc,cd,ce,cf,cg,ch,rfl⟩:=array84 T f;simp only[q8,Xl,zp]at j;subst j;simp only[L7,body_wait,waitFn,jv]
 u_c stepG_block zm a
 u_c aO zm a
 u_reg zm a
 iterate 3 (u_op zm a)
 u_call H.f_uLoad (nm_uLoad L) uLoadFn zm a
 iterate 9 (first|u_c aO zm a|u_reg zm a|u_c bB zm a|u_op zm a)
 refine Goes.stop fun e b=>?_;clear b a;refine⟨rfl,fun d=>?_,fun d=>?_⟩;rotate_left
 ·skip
  refine⟨_,stepG_load_atomic (v:=0) rfl rfl (by k_ne) rfl H.f_loadU64 (x_loadU64_n L) (x_loadU64_b L) (x_loadU64_x L) .u64 (x_loadU64_f L) rfl d.cellSt,fun w a=>⟨60, ?_⟩⟩;clear d
  walk_nrm
  u_op zm a
  u_c bB zm a
  u_c stepG_ret' zm a
  u_leave1 H.f_uLoad zm a
  iterate 22 (first|u_c bB zm a|u_c aO zm a|u_reg zm a|u_op zm a)
  u_cond bL zm a
  u_c aO zm a
  u_cond bL zm a
  u_c aO zm a
  u_reg zm a
  refine Goes.stop fun e b=>?_;clear b a;refine⟨rfl,_,stepG_mark0 .enable (by simp) rfl rfl (by k_ne) rfl H.f_enable (x_enable_n L) (x_enable_b L) (x_enable_x L)<|x_enable_f L,fun w a=>⟨12, ?_⟩⟩
  walk_nrm
  u_c bB zm a
  u_reg zm a
  u_op zm a
  u_conv H.underlying_tWgP H.room_tWg (Go.ConcN.Gen.WgLive.cell0 a).choose_spec zm a
  refine Goes.stop fun e b=>?_;clear b a;refine⟨rfl,_,stepG_markAt .acquire (by simp) rfl rfl (by k_ne) rfl H.f_acquire (x_acquire_n L) (x_acquire_b L) (x_acquire_x L) (x_acquire_f L)<|by simp[Act.eval,stA],fun w a=>⟨40, ?_⟩⟩
  walk_nrm
  iterate 16 (first|u_c bB zm a|u_c aO zm a|u_reg zm a|u_skip zm a|u_op zm a)
  u_cond bK zm a
  u_c stepG_skip zm a
  u_c stepG_ret' zm a
  refine Goes.step rfl fun _ b=>?_;rw[YB rfl rfl H.f_wait rfl];simp only[goes_go];exact⟨⟨rfl,rfl⟩,Goes.stop fun _ _=>⟨rfl,h⟩⟩
 refine⟨_,stepG_load_atomic (v:=4294967296) rfl rfl (by k_ne) rfl H.f_loadU64 (x_loadU64_n L) (x_loadU64_b L) (x_loadU64_x L) .u64 (x_loadU64_f L) rfl d.cellSt,fun w a=>⟨80, ?_⟩⟩;clear d
 walk_nrm
 u_op zm a
 u_c bB zm a
 u_c stepG_ret' zm a
 u_leave1 H.f_uLoad zm a
 iterate 22 (first|u_c bB zm a|u_c aO zm a|u_reg zm a|u_op zm a)
 u_cond bK zm a
 u_c stepG_skip zm a
 u_c aO zm a
 u_reg zm a
 iterate 6 (u_op zm a)
 u_call H.f_uCas (nm_uCas L) uCasFn zm a
 iterate 11 (first|u_c aO zm a|u_reg zm a|u_c bB zm a|u_op zm a)
 refine Goes.stop fun e b=>?_;clear b a;refine⟨rfl,fun d=>?_,fun d=>?_⟩;rotate_left;skip;refine⟨_,stepG_cas_miss (v:=0) (old:=4294967296) (n:=4294967297) rfl rfl (by k_ne) rfl H.f_casU64 (x_casU64_n L) (x_casU64_b L) (x_casU64_x L) .u64 (x_casU64_f L) rfl rfl rfl d.cellSt (d.thaw 0)<|by decide,fun w a=>⟨60, ?_⟩⟩;clear d
 walk_nrm
 u_op zm a
 u_c bB zm a
 u_c stepG_ret' zm a
 u_leave1 H.f_uCas zm a
 u_c bB zm a
 u_cond bK zm a
 u_c stepG_skip zm a
 u_c stepG_inBlock zm a
 u_c stepG_inLoop zm a
 exact(xn3 H h ⟨_,rfl,by simp,by simp⟩ _ a).up (by omega);refine⟨_,(stepG_cas_hit (v:=4294967296) (n:=4294967297) rfl rfl (by k_ne) rfl H.f_casU64 (x_casU64_n L) (x_casU64_b L) (x_casU64_x L) .u64 (x_casU64_f L) rfl rfl rfl d.cellSt<|d.thaw 0).trans<|by rfl,fun w a=>⟨60, ?_⟩⟩;clear d
 walk_nrm
 u_op zm a
 u_c bB zm a
 u_c stepG_ret' zm a
 u_leave1 H.f_uCas zm a
 u_c bB zm a
 u_cond bL zm a
 iterate 8 (first|u_c aO zm a|u_reg zm a|u_c bB zm a|u_op zm a)
 u_cond bL zm a
 u_reg zm a
 iterate 3 (u_op zm a)
 u_conv H.underlying_tPU32 H.room_tU32 (Go.ConcN.Gen.WgLive.cell1 a).choose_spec zm a
 refine Goes.stop fun e b=>?_;clear b a;refine⟨rfl,_,stepG_markAt .write (by simp) rfl rfl (by k_ne) rfl H.f_raceWrite (x_raceWrite_n L) (x_raceWrite_b L) (x_raceWrite_x L) (x_raceWrite_f L) (ad:=smA Wg)<|by simp[Act.eval,smA],fun w a=>⟨40, ?_⟩⟩
 walk_nrm
 iterate 15 (first|u_c bB zm a|u_c aO zm a|u_reg zm a|u_skip zm a|u_op zm a)
 u_cond bK zm a
 u_c stepG_skip zm a
 u_c aO zm a
 u_reg zm a
 iterate 4 (u_op zm a)
 refine Goes.stop fun e b=>?_;clear b a;refine⟨rfl,rfl,fun⟨st,d⟩=>stepG_semacquire_wait rfl rfl rfl H.f_semacquire (x_semacquire_n L) (x_semacquire_b L) (x_semacquire_x L) (x_semacquire_f L) (by simp[Act.eval,smA]) d.cellSm,fun i=>?_⟩;refine⟨_,(stepG_semacquire (n:=1) rfl rfl (by k_ne) rfl H.f_semacquire (x_semacquire_n L) (x_semacquire_b L) (x_semacquire_x L) (x_semacquire_f L) (by simp[Act.eval,smA]) i.cellSm (by k_ne)<|i.thaw 1).trans<|by rfl,fun w a=>⟨30, ?_⟩⟩;clear i
 walk_nrm
 u_c bB zm a
 u_c aO zm a
 u_reg zm a
 iterate 3 (u_op zm a)
 u_call H.f_uLoad (nm_uLoad L) uLoadFn zm a
 iterate 9 (first|u_c aO zm a|u_reg zm a|u_c bB zm a|u_op zm a)
 refine Goes.stop fun e b=>?_;clear b a;refine⟨rfl,fun d=>?_⟩;refine⟨_,stepG_load_atomic (v:=0) rfl rfl (by k_ne) rfl H.f_loadU64 (x_loadU64_n L) (x_loadU64_b L) (x_loadU64_x L) .u64 (x_loadU64_f L) rfl d.cellSt,fun w a=>⟨60, ?_⟩⟩;clear d
 walk_nrm
 u_op zm a
 u_c bB zm a
 u_c stepG_ret' zm a
 u_leave1 H.f_uLoad zm a
 iterate 2 (u_op zm a)
 u_c bB zm a
 u_c aO zm a
 u_cond bL zm a
 u_c aO zm a
 u_reg zm a
 refine Goes.stop fun e b=>?_;clear b a;refine⟨rfl,_,stepG_mark0 .enable (by simp) rfl rfl (by k_ne) rfl H.f_enable (x_enable_n L) (x_enable_b L) (x_enable_x L)<|x_enable_f L,fun w a=>⟨12, ?_⟩⟩
 walk_nrm
 u_c bB zm a
 u_reg zm a
 u_op zm a
 u_conv H.underlying_tWgP H.room_tWg (Go.ConcN.Gen.WgLive.cell0 a).choose_spec zm a
 refine Goes.stop fun e b=>?_;clear b a;refine⟨rfl,_,stepG_markAt .acquire (by simp) rfl rfl (by k_ne) rfl H.f_acquire (x_acquire_n L) (x_acquire_b L) (x_acquire_x L) (x_acquire_f L)<|by simp[Act.eval,stA],fun w a=>⟨40, ?_⟩⟩
 walk_nrm
 iterate 6 (first|u_c bB zm a|u_c aO zm a|u_reg zm a|u_op zm a)
 u_cond bK zm a
 u_c stepG_skip zm a
 u_c stepG_ret' zm a
 refine Goes.step rfl fun _ b=>?_;rw[YB rfl rfl H.f_wait rfl];simp only[goes_go];exact⟨⟨rfl,rfl⟩,Goes.stop fun _ _=>⟨rfl,h⟩⟩
def i_(H:WgLib P L){c:Zf}(b:Out<|G {c with mode:=settle c.mode} cs)(w:Zy)(a:WgLive L.tWg Wg w):
  Goes P bL (R0 L.tWg Wg) DC0 (Gh P L.tWg Wg Out) 3
   (G ((baseD L.wait).at ⟨#[zo Wg]++aW 83 bJ,[]⟩ [.code<|body_wait L]) (c::cs)) w:=by
 lib_facts
 simp only[body_wait,waitFn,jv,qw,qx,Z7,Zi,jk,jc]
 u_c aO zm a
 u_cond bL zm a
 u_reg zm a
 refine Goes.stop fun e d=>?_;clear d a;refine⟨rfl,_,stepG_mark0 .disable (by simp) rfl rfl (by k_ne) rfl H.f_disable (x_disable_n L) (x_disable_b L) (x_disable_x L)<|x_disable_f L,fun w a=>⟨50, ?_⟩⟩
 walk_nrm
 u_c bB zm a
 u_c stepG_block zm a
 u_c stepG_loop zm a
 exact(xn2 H b ⟨_,rfl,by simp,by simp⟩ _ a).up<|by omega
end
end
end A
namespace A
open Go Go.Conc Go.Conc.Lib
variable [pn:Pn]
abbrev ED:WgLink:={add:=168,done:=170,wait:=167,relMerge:=223,disable:=213,enable:=215,inBubble:=221,associate:=224,fatal:=225,uOr:=226,uAdd:=227,raceRead:=228,uLoad:=214,uStore:=229,disassociate:=219,semrelease:=230,acquire:=216,isAssociated:=217,uCas:=218,raceWrite:=220,semacquire:=222,orU64:=257,addU64:=258,loadU64:=255,storeU64:=259,casU64:=256,tWgP:=288,tUP:=283,tAssoc:=296,tWg:=245,tAU:=242,tU64:=240,tUint:=162,tU32:=243,tPU32:=294,tPAU:=327,tPU64:=329,tNoCopy:=237,tANoCopy:=238,tAlign64:=239}
open Tryz in
theorem OM:WgLib bM ED:=
 ⟨func168,func170,func167,func223,func213,func215,func221,func224,func225,func226,func227,func228,func214,func229,func219,func230,func216,func217,func218,func220,func222,func257,func258,func255,func259,func256,underlying288,runUnderlying288,sizeOf288,isAgg288,zeroValue288,underlying283,runUnderlying283,sizeOf283,isAgg283,zeroValue283,underlying296,runUnderlying296,sizeOf296,isAgg296,zeroValue296,underlying245,runUnderlying245,sizeOf245,isAgg245,zeroValue245,underlying242,runUnderlying242,sizeOf242,isAgg242,zeroValue242,underlying240,runUnderlying240,sizeOf240,isAgg240,zeroValue240,underlying162,runUnderlying162,sizeOf162,isAgg162,zeroValue162,underlying243,runUnderlying243,sizeOf243,isAgg243,zeroValue243,underlying294,runUnderlying294,sizeOf294,isAgg294,zeroValue294,underlying327,runUnderlying327,sizeOf327,isAgg327,zeroValue327,underlying329,runUnderlying329,sizeOf329,isAgg329,zeroValue329,underlying0,runUnderlying0,sizeOf0,isAgg0,zeroValue0,underlying3,runUnderlying3,sizeOf3,isAgg3,zeroValue3,underlying4,runUnderlying4,sizeOf4,isAgg4,zeroValue4,underlying9,runUnderlying9,sizeOf9,isAgg9,zeroValue9,underlying20,runUnderlying20,sizeOf20,isAgg20,zeroValue20,underlying21,runUnderlying21,sizeOf21,isAgg21,zeroValue21,(by kernel_rfl),(by kernel_rfl)⟩
end A
namespace A
open Go Go.Conc
open Go.ConcR (Payload)
variable [pn:Pn] [py:Go.ConcR.Payload]
section
variable {ops:Array aD} {rest:List Nat}
section
variable (P:aV) (S:Nat->Prop) (M:Nat) (o:Nat->Obj)
def Cg(Stop:Zg->Zy->Prop)(m:Nat)(g:Zg):Prop:=∀w,Kc S M o w->Goes P bK (RS S M o) (DS S M) Stop m g w
variable {P S M o} {Stop:aS->World->Prop} {m:Nat} {b:Frame} {a:Act} {k:List Item} {cs:List Frame}
def Cg.goes{g:Zg}(f:g.status= .running)(h:∀w,Kc S M o w->(aZ P bK g w).goes fun g' w' es=>(w'=w/\∀e∈es,xQ S M e)/\Cg P S M o Stop m g'):Cg P S M o Stop (m+1) g:=by
 intro w hk;refine Goes.step f fun b a=>?_;have:=h b<|a hk;revert this;cases aZ P bK g b<;>simp only[GStep.goes]<;>(try exact id)
 rintro⟨⟨rfl,c⟩,d⟩;exact⟨⟨rfl,c⟩,d _<|a hk⟩
theorem Cg.ctl{g g':Zg}(b:g.status= .running)(h:∀w,aZ P bK g w= .go g' w)(a:Cg P S M o Stop m g'):Cg P S M o Stop (m+1) g:=
 Cg.goes b fun w hk=>by rw[h w];exact⟨⟨rfl,by simp⟩,a⟩
def Cg.exit{id:Nat}{k':List Item}(h:exitTo id k=bO k')(c:Cg P S M o Stop m<|G (b.at a k') cs):Cg P S M o Stop (m+1)<|G (b.at a (.code (.exit id)::k)) cs:=Cg.ctl rfl (fun _=>stepG_exit h) c
def Cg.stop{g:Zg}(h:∀w,Kc S M o w->Stop g w):Cg P S M o Stop m g:=fun w hk=>Goes.stop fun b a=>h b<|a hk
def Cg.value{i:Nat}{op:aD}(v:Zv)(ho:ops[i]?=bO op)(hw:aX op (yielded ops a.tmps)=bL)(hk:b.kind≠ .early)
  (g:∀w,Kc S M o w->(bG a.eval op).run P w= .ok (.value v) w)(d:∀w,Kc S M o w->∀e∈(bG a.eval op).events P w #[],xQ S M e)
  (f:Cg P S M o Stop m<|G (b.at (a.put op.dst v) (.inRegion ops rest::k)) cs):Cg P S M o Stop (m+1)<|G (b.at a (.inRegion ops (i::rest)::k)) cs:=
 Cg.goes rfl fun w c=>by rw[stepG_value ho hw hk<|g w c];exact⟨⟨rfl,fun e h=>d w c e<|mem_listed h⟩,f⟩
def Cg.pure{i:Nat}{op:aD}(v:Zv)(ho:ops[i]?=bO op)(hw:aX op (yielded ops a.tmps)=bL)(hk:b.kind≠ .early)
  (f:∀w,(bG a.eval op).run P w= .ok (.value v) w)(c:∀w,(bG a.eval op).events P w #[]=#[])
  (d:Cg P S M o Stop m<|G (b.at (a.put op.dst v) (.inRegion ops rest::k)) cs):Cg P S M o Stop (m+1)<|G (b.at a (.inRegion ops (i::rest)::k)) cs:=
 Cg.value v ho hw hk (fun w _=>f w) (fun w _ e h=>by rw[c w]at h;simp at h) d
def Cg.call{i:Nat}{op:aD}{f:FuncId}{fn:Func}{c:Code}{args:Array Operand}{ats:Array Zt}
  (ho:ops[i]?=bO op)(hw:aX op (yielded ops a.tmps)=bL)(hk:b.kind≠ .early)(hop:op.op= .call {callee:= .value (.func f),args,argTypes:=ats})
  (g:P.funcs[f]?=bO fn)(d:(fn.name== "runtime.NumGoroutine")=bK)(e:fn.body=bO c)
  (j:Cg P S M o Stop m<|G ((base f).at {tmps:=args.map a.eval++aW (fn.ntmps-(args.map a.eval).size) bJ,defers:=[]} [.code c]) (b.at a (.inRegion ops (i::rest)::k)::cs)):
  Cg P S M o Stop (m+1) (G (b.at a (.inRegion ops (i::rest)::k)) cs):=
 Cg.goes rfl fun w h=>goes_call ho hw hk hop g d e ⟨⟨rfl,by simp⟩,j⟩
section
variable {fn:Func} {todo:List Item} {b₀:Frame} {a₀:Act} {ops:Array aD} {i:Nat} {rest:List Nat}
def Cg.leave0(e:b.kind= .normal)(hd:a.defers=[])(d:P.funcs[b.fn]?=bO fn)(c:fn.results=#[])
  (f:Cg P S M o Stop m (G (b₀.at (a₀.put ((ops[i]?).bind (·.dst))<|.tuple #[]) (.inRegion ops rest::k)) cs)):
  Cg P S M o Stop (m+1) (G {b.at a todo with mode:= .returning} (b₀.at a₀ (.inRegion ops (i::rest)::k)::cs)):=
 .ctl rfl (fun w=>by rw[stepG_leave e hd d (results_none c _ P w)<|events_results_none c _ _,IB]) f
def Cg.leave1{t:Tmp}(e:b.kind= .normal)(hd:a.defers=[])(d:P.funcs[b.fn]?=bO fn)(c:fn.results=#[.tmp t])
  (f:Cg P S M o Stop m (G (b₀.at (a₀.put ((ops[i]?).bind (·.dst))<|a.tmps.getD t bJ) (.inRegion ops rest::k)) cs)):
  Cg P S M o Stop (m+1) (G {b.at a todo with mode:= .returning} (b₀.at a₀ (.inRegion ops (i::rest)::k)::cs)):=
 .ctl rfl (fun w=>by rw[stepG_leave e hd d (results_tmp c _ P w)<|events_results_tmp c _ _,IB]) f
end
def t_{x:Addr}(h:S x.block\/x.block=M):xQ S M ⟨.cell x,bK,bK⟩:=by
 refine⟨fun y a=>?_,by simp,by simp,by simp⟩;simp only[ofEvent_cell0,aR,zp]at a;subst a;exact⟨.inl ⟨x,rfl,h⟩,rfl,rfl⟩
def xml{x:Nat}(h:S x\/x=M):xQ S M ⟨.obj x,bK,bK⟩:=by
 refine⟨fun y a=>?_,by simp,by simp,by simp⟩;simp only[show aU ⟨.obj x,bK,bK⟩= .access ⟨.obj x,bK,bK⟩from rfl,aR,zp]at a;subst a;exact⟨.inr ⟨x,rfl,h⟩,rfl,rfl⟩
end
def eZ(e:aK):Prop:=∃(k f:Int) (s:ByteArray),e.key=zi k/\e.val= .agg #[.string s,zi f]
def textOf:Zv->ByteArray
 | .agg cs=>match cs.getD 0 bJ with| .string s=>s|_=> .empty
 |_=> .empty
def fileAt(n:Int):List aK->Zv
 |[]=> .agg #[.string ⟨#[]⟩,zi 0]
 |e::es=>match e.key with
  | .int _ k=>if n=k then e.val else fileAt n es
  |_=>fileAt n es
def cB(n:Int)(es:List aK):ByteArray:=textOf<|fileAt n es
def Mg{n:Int}:∀{es:List aK},(∀e∈es,eZ e)->∃f:Int,fileAt n es= .agg #[.string<|cB n es,zi f]
 |[],_=>⟨0,rfl⟩
 |e::es,h=>by
  obtain⟨k,f,s,hk,d⟩:=h e (by simp);obtain⟨b,g⟩:=Mg (n:=n) (es:=es) fun e c=>h e (by simp[c]);by_cases a:n=k;exact⟨f,by simp[cB,fileAt,hk,a,d,textOf]⟩;exact⟨b,by simpa[cB,fileAt,hk,a]using g⟩
def Mh{n:Int}:∀(es:List aK) (i:Nat),(∀e∈es,eZ e)->∃r,Instr.findNow (.int .i64) (zi n) es i=bO r/\
  (match r with|some (_,v)=>v|none=>(.agg #[.string ⟨#[]⟩,zi 0]:Zv))=fileAt n es
 |[],i,_=>⟨bN,rfl,rfl⟩
 |e::es,i,h=>by
  obtain⟨k,f,s,hk,j⟩:=h e (by simp);obtain⟨r,b,c⟩:=Mh es (i+1) fun e g=>h e (by simp[g]);by_cases a:n=k;exact⟨bO (i,e.val),by simp[Instr.findNow,Instr.sameNow,hk,a],by simp[fileAt,hk,a]⟩;have d:(n==k)=bK:=by simpa using a
  exact⟨r,by simp only[Instr.findNow,Instr.sameNow,hk,if_true,d];exact b,by simpa[fileAt,hk,a]using c⟩
section
variable {P:aV} {w:World} {t kt et:TypeId} {M clock:Nat} {es:Array aK} {n:Int}
def JE(hk:P.underlying kt=bO (.int .i64))(m:Nat):∀w em,(Instr.checkKey em (m+1) kt<|zi n).run P w= .ok () w:=fun w em=>by simp[Instr.checkKey,xm hk,aY]
def ztz(hk:P.underlying kt=bO (.int .i64))(m:Nat):∀w em z,(Instr.checkKey em (m+1) kt<|zi n).events P w z=z:=fun w em z=>by simp[Instr.checkKey,xm hk,Xr]
def zxl(m:P.underlying t=bO (.map kt et))(hk:P.underlying kt=bO (.int .i64))(o:∀w,(zeroValue et).run P w= .ok (.agg #[.string ⟨#[]⟩,zi 0]) w)
  (h:w.heap[M]?=bO (.map es clock))(b:∀e∈es.toList,eZ e):
  (Instr.lookup t (.map<|bO M) (zi n) bK).run P w= .ok (fileAt n es.toList) w/\(Instr.lookup t (.map<|bO M) (zi n) bK).events P w #[]=#[⟨.obj M,bK,bK⟩]:=by
 obtain⟨r,f,g⟩:=Mh (n:=n) es.toList 0 b;have l:(getObj M).run P w= .ok (.map es clock) w:=by simp[getObj,Sem.run,h]
 have d:∀z,(getObj M).events P w z=z.push ⟨.obj M,bK,bK⟩:=fun z=>by simp[getObj,Sem.events,Sem.runT,h,Obj.isChan,-Sem.runT_eq]
 have i:=JE (n:=n) hk 9999;have a:=ztz (n:=n) hk 9999;have k:(aT kt (zi n) es.toList).run P w= .ok r w:=by simp[aT,xm hk,aY,f]
 have c:∀z,(aT kt (zi n) es.toList).events P w z=z:=fun z=>by simp[aT,xm hk,Xr,f]
 constructor;simp only[Instr.lookup,Sem.run_bind,xm m,aY,l,i,k,DT];cases r with
 |none=>simp only[Sem.run_bind,o,aY,DT];rw[<-g];rfl
 |some x=>obtain⟨j,v⟩:=x;simp only[DT];rw[<-g];rfl
 simp only[Instr.lookup,Xr,Sem.run_bind,xm m,aY,l,d,i,a,k,c,DT,Result.evThen_ok,events_underlying];cases r with
 |none=>simp[Xr,o]
 |some x=>obtain⟨j,v⟩:=x;simp[Xr]
end
end
end A
namespace A
open Go Go.Conc Go.RowKit Go.Conc.Lib Go.ConcR.Gen Go.ConcN.Gen
open Go.ConcR (Payload)
variable [pn:Pn] [py:Go.ConcR.Payload]
section
variable {w:Zy} {ops:Array aD} {fr tt:Int}
structure Kn(D M Bd Bs C:Nat)(es:Array aK)(S:ZP)(o:Nat->Obj):Prop where
 sd:S D
 sb:S Bd
 ss:S Bs
 disk:∃rm nx,o D= .cells #[rm,.map<|bO M,nx] py.ety
 box:o Bd= .cells #[zo D] 76
 nW:o Bs= .cells #[.chan<|bO C] 235
 files:∃clock,o M= .map es clock
 V_:∀e∈es.toList,eZ e
section
variable {D M Bd Bs C Wg:Nat} {es:Array aK} {S:Nat->Prop} {o:Nat->Obj} {Stop:aS->World->Prop} {m:Nat}
def Kn.xX(K:Kn D M Bd Bs C es S o)(hk:Kc S M o w):w.cell? (zq D 1)=bO (.map<|bO M):=by
 obtain⟨b,a,h⟩:=K.disk;have:=hk D<|.inl K.sd;simp[aQ,this,h]
def Kn.tZ(K:Kn D M Bd Bs C es S o)(hk:Kc S M o w):w.cell? (zq Bd 0)=bO (zo D):=by
 have:=hk Bd<|.inl K.sb;simp[aQ,this,K.box]
def Kn.oL(K:Kn D M Bd Bs C es S o)(hk:Kc S M o w):w.cell? (zq Bs 0)=bO (.chan<|bO C):=by
 have:=hk Bs<|.inl K.ss;simp[aQ,this,K.nW]
def Kn.look(K:Kn D M Bd Bs C es S o)(hk:Kc S M o w)(n:Int):
  (Instr.lookup 130 (.map<|bO M) (zi n) bK).run bM w= .ok (fileAt n es.toList) w/\(Instr.lookup 130 (.map<|bO M) (zi n) bK).events bM w #[]=#[⟨.obj M,bK,bK⟩]:=by
 obtain⟨a,h⟩:=K.files;exact zxl Tryz.underlying130 Tryz.underlying3 Tryz.zeroValue138 ((hk M<|.inr rfl).trans<|by rw[h]) K.V_
noncomputable def R8:Code:=Tryz.f76.body.getD .skip
noncomputable def EL:Code:=Tryz.f171.body.getD .skip
noncomputable def EK:Code:=Tryz.f169.body.getD .skip
def zzt(K:Kn D M Bd Bs C es S o)(n:Int){b₀:Zf}{a₀:Act}{i:Nat}{rest:List Nat}{k:List Item}{cs:List Zf}
  (g:Cg bM S M o Stop m (G (b₀.at (a₀.put ((ops[i]?).bind (·.dst))<|.string<|cB n es.toList) (.inRegion ops rest::k)) cs)):
  Cg bM S M o Stop (m+17) (G ((base 76).at ⟨#[zo D,zi n,bJ,bJ,bJ,bJ,bJ,bJ,bJ,bJ,bJ,bJ],[]⟩ [.code R8]) (b₀.at a₀ (.inRegion ops (i::rest)::k)::cs)):=by
 obtain⟨f,d⟩:=Mg (n:=n) K.V_;simp only[R8,Tryz.f76,jv];refine Cg.ctl rfl (fun _=>aO) ?_;refine Cg.ctl rfl (fun _=>stepG_region) ?_
 (refine Cg.pure _ rfl rfl (by k_ne) (fun _=>by go_simp<;>rfl) (fun _=>by simp[go_sem, *]) ?_;walk_nrm)
 refine Cg.ctl rfl (fun _=>bB) ?_;refine Cg.ctl rfl (fun _=>aO) ?_;refine Cg.ctl rfl (fun _=>stepG_region) ?_
 iterate 3 (refine Cg.pure _ rfl rfl (by k_ne) (fun _=>by go_simp<;>rfl) (fun _=>by simp[go_sem, *]) ?_;walk_nrm)
 refine Cg.value (.map<|bO M) rfl rfl (by k_ne) (fun w hk=>by have c:=K.xX hk;go_simp) (fun w hk e a=>by have c:=K.xX hk;simp[go_sem, *]at a;subst a;exact t_<|.inl K.sd) ?_
 walk_nrm
 (refine Cg.pure _ rfl rfl (by k_ne) (fun _=>by go_simp<;>rfl) (fun _=>by simp[go_sem, *]) ?_;walk_nrm)
 refine Cg.value (fileAt n es.toList) rfl rfl (by k_ne) (fun w hk=>by have b:=(K.look hk n).1;simp[bG,Act.eval,b]) (fun w hk e a=>by have b:=(K.look hk n).2;simp[bG,Act.eval,b,Xr]at a;subst a;exact xml<|.inr rfl) ?_
 walk_nrm
 rw[d]
 (refine Cg.pure _ rfl rfl (by k_ne) (fun _=>by go_simp<;>rfl) (fun _=>by simp[go_sem,Instr.field,part,asAgg,Xr, *]) ?_;walk_nrm)
 (refine Cg.pure _ rfl rfl (by k_ne) (fun _=>by go_simp<;>rfl) (fun _=>by simp[go_sem, *]) ?_;walk_nrm)
 refine Cg.ctl rfl (fun _=>bB) ?_;refine Cg.ctl rfl (fun _=>stepG_ret') ?_;refine Cg.leave1 rfl rfl Tryz.func76 rfl ?_;exact g
def TQ(ty:Zt)(Wg C:Nat)(S:ZP)(D M:Nat)(o:Nat->Obj):Ze->Zg->Zy->Prop
 |[]=>MB bM ty Wg C S D M o
 |v::vs=>BV bM C S M o v<|xD bM ty Wg C S D M o vs
def cS{ty:Zt}{vs:Ze}{g:Zg}(h:Cg bM S M o (TQ ty Wg C S D M o vs) m g)(hk:Kc S M o w):xD bM ty Wg C S D M o vs g w:=by
 cases vs<;>exact⟨m,h w hk⟩
noncomputable def CK:=Ql<|Qk<|Qb<|Qa EL
noncomputable def GL:=Qb EL
noncomputable def VJ:Array aD:=match EK with| .seq _ (.region _ ops _)=>ops|_=>#[]
noncomputable def uX:Zf:={(default:Zf)with fn:=Tryz.prog.funcs.size,defers:=[],mode:= .panicking [goexitEntry]}
noncomputable def GM(D Bd Bs C Wg:Nat)(fr tt:Int):Zf:=(baseD 169).at ⟨#[zi fr,zi tt,zo Wg,zo Bs,zo Bd,bJ,bJ,.chan<|bO C,zo D,zi fr,zi tt,bJ],[dcall 170 #[zo Wg]]⟩ [.inRegion VJ [4]]
def dY(es:Array aK):Int->Nat->Ze
 |_,0=>[]
 |n,k+1=> .agg #[zi n,.string<|cB n es.toList]::dY es (n+1) k
def Du(D Bd Bs C Wg:Nat)(fr tt n:Int)(g:Zg):Prop:=
 ∃v2 v4 v5 v6 v7 v9 v10 v11 v12 v13 v14 v15 v16 v17 v18 v19 v20 v21:Zv,g=G ((base 171).at ⟨#[.chan<|bO C,zo D,v2,zi tt,v4,v5,v6,v7,zi n,v9,v10,v11,v12,v13,v14,v15,v16,v17,v18,v19,v20,v21],[]⟩ [.code CK,.inLoop CK,.inBlock 0,.code GL]) [GM D Bd Bs C Wg fr tt,uX]
def Rz(T:Za):QuitsD bM 2 0<|G {(baseD 169).at ⟨T,[]⟩ []with mode:= .returning} [uX]:=by
 refine QuitsD.ctl (g':=G uX []) rfl (fun w=>?_) ?_;simp[G,aZ,unwind,doReturn,results,Frame.at,baseD,uX,Tryz.func169,Tryz.f169,seen,GStep.after,goexitEntry];refine QuitsD.ctl (g':={G uX []with status:= .finished}) rfl (fun w=>?_) ⟨rfl,rfl⟩;simp[G,aZ,unwind,uX,goexitEntry,Frame.catches];rfl
def P0(K:Kn D M Bd Bs C es S o){T:Za}:Cg bM S M o (WJ bM 245 Wg D) 6<|G ((base 171).at ⟨T,[]⟩ [.inRegion ops []]) [GM D Bd Bs C Wg fr tt,uX]:=by
 simp only[GM,VJ,EK,Tryz.f169,jv];refine Cg.ctl rfl (fun _=>bB) ?_;refine Cg.ctl rfl (fun _=>stepG_end) ?_;refine Cg.leave0 rfl rfl Tryz.func171 rfl ?_
 walk_nrm
 refine Cg.ctl rfl (fun _=>bB) ?_;refine Cg.ctl rfl (fun _=>stepG_end) ?_;refine Cg.ctl rfl (fun _=>stepG_unwind_enter rfl Tryz.func170 (nm_done ED) rfl) ?_;refine Cg.stop fun w hk=>⟨rfl,fun a=>?_⟩;obtain⟨c,d,b⟩:=K.disk;have hd:=hk D<|.inl K.sd;rw[b]at hd;refine⟨c,.map<|bO M,23,23, ?_, ?_⟩;exact Go.ConcN.Gen.doneN OM (k:=1) rfl (Rz _) w ⟨a,by simp[Go.ConcN.Has,aQ,hd]⟩;exact Go.ConcN.Gen.doneN OM (k:=2) rfl (Rz _) w ⟨a,by simp[Go.ConcN.Has,aQ,hd]⟩
def xna:(Tryz.prog.funcs[(base 171).fn]?).any (·.norace)=bK:=by kernel_rfl
def zzz(K:Kn D M Bd Bs C es S o){fr tt n:Int}(B:tt<n){g:Zg}(e:Du D Bd Bs C Wg fr tt n g):Cg bM S M o (TQ 245 Wg C S D M o []) 14 g:=by
 obtain⟨E,F,G,H,I,J,h,i,j,k,l,m,p,q,t,v,x,y,rfl⟩:=e;simp only[CK,GL,EL,Tryz.f171,jv];have f:¬(n<=tt):=by omega
 refine Cg.ctl rfl (fun _=>aO) ?_;refine Cg.ctl rfl (fun _=>aO) ?_;refine Cg.ctl rfl (fun _=>stepG_region) ?_
 iterate 3 (refine Cg.pure _ rfl rfl (by k_ne) (fun _=>by go_simp<;>rfl) (fun _=>by simp[go_sem, *]) ?_;walk_nrm)
 refine Cg.ctl rfl (fun _=>bB) ?_
 (refine Cg.ctl rfl (fun _=>stepG_cond rfl) ?_;simp only[xu,if_false,↓reduceIte])
 refine Cg.exit rfl ?_;refine Cg.ctl rfl (fun _=>stepG_region) ?_
 (refine Cg.pure _ rfl rfl (by k_ne) (fun _=>by go_simp<;>rfl) (fun _=>by simp[go_sem, *]) ?_;walk_nrm)
 refine Cg.stop fun w hk=>?_;refine⟨rfl,rfl,fun c b s r d=>⟨_,stepG_close rfl rfl (by k_ne) rfl rfl d xna,rfl,fun z a=>⟨6, ?_⟩⟩⟩;exact P0 K z a
def Qe(n:Int)(s:ByteArray)(w:Zy):(Instr.build 248 #[(0,zi n),(1,.string s)]).run bM w= .ok (.agg #[zi n,.string s]) w:=run_build w 248 _ _<|by kernel_rfl
def ztx(n:Int)(s:ByteArray)(w:Zy):(Instr.build 248 #[(0,zi n),(1,.string s)]).events bM w #[]=#[]:=by kernel_rfl
def SZ{b:Zf}{a:Act}{k:List Item}{cs:List Zf}{i:Nat}{rest:List Nat}{op:aD}{x y:Operand}{v:Zv}{Next:Zg->Zy->Prop}(ho:ops[i]?=bO op)(hw:aX op (yielded ops a.tmps)=bL)(hk:b.kind≠ .early)(hop:op.op= .send x y)
  (hx:a.eval x= .chan (bO C))(hy:a.eval y=v)(next:∀w',Kc S M o w'->Next (G (b.at (a.put op.dst bJ) (.inRegion ops rest::k)) cs) w')(w:Zy):
  BV bM C S M o v Next (G (b.at a (.inRegion ops (i::rest)::k)) cs) w:=by
 refine⟨rfl,G (b.at a (.inRegion ops (i::rest)::k)) cs,.tuple #[],#[], ?_,by simp, ?_⟩;rw[stepG_comm (cases:=#[scase C v<|.tuple #[]]) (blocking:=bL) (shape:= .send) (w':=w) ho hw hk<|by simp[bG,hop,hx,hy,scase]];have c:(bG a.eval op).events bM w #[]=#[]:=by
  unfold bG;simp only[hop];rfl
 unfold listed;rw[c];simp[seen];have e:Conc.served (G (b.at a (.inRegion ops (i::rest)::k)) cs) bJ=G (b.at (a.put op.dst bJ) (.inRegion ops rest::k)) cs:=by
  rw[served_G];simp[ho]
 rw[e];exact next
def rK(K:Kn D M Bd Bs C es S o)(T:tt<9223372036854775807)(Q:-9223372036854775808<=fr):∀(k:Nat) (n:Int),n+k=tt+1->fr<=n->∃m,∀g,Du D Bd Bs C Wg fr tt n g->Cg bM S M o (TQ 245 Wg C S D M o<|dY es n k) m g:=by
 intro k;induction k with
 |zero=>exact fun n R _=>⟨14,fun g N=>zzz K (by omega) N⟩
 |succ k ih=>
  intro n R L;obtain⟨m,J⟩:=ih (n+1) (by omega) (by omega);refine⟨40, ?_⟩;rintro g ⟨s,t,v,x,y,z,a,b,d,e,f,h,i,j,l,p,q,r,rfl⟩;have O:n<=tt:=by omega
  have I:IntKind.i64.wrap (n+1)=n+1:=by rw[xn];omega
  have H:∀s t v x y z a b d e f h i j l p q r:Zv,Cg bM S M o (TQ 245 Wg C S D M o<|dY es (n+1) k) m<|G ((base 171).at ⟨#[.chan<|bO C,zo D,s,zi tt,t,v,x,y,zi<|n+1,z,a,b,d,e,f,h,i,j,l,p,q,r],[]⟩ [.code CK,.inLoop CK,.inBlock 0,.code GL]) [GM D Bd Bs C Wg fr tt,uX]:=
   fun s t v x y z a b d e f h i j l p q r=>J _ ⟨s,t,v,x,y,z,a,b,d,e,f,h,i,j,l,p,q,r,rfl⟩
  clear J ih;simp only[CK,GL,EL,Tryz.f171,jv]at H⊢;refine Cg.ctl rfl (fun _=>aO) ?_;refine Cg.ctl rfl (fun _=>aO) ?_;refine Cg.ctl rfl (fun _=>stepG_region) ?_
  iterate 3 (refine Cg.pure _ rfl rfl (by k_ne) (fun _=>by go_simp<;>rfl) (fun _=>by simp[go_sem, *]) ?_;walk_nrm)
  refine Cg.ctl rfl (fun _=>bB) ?_
  (refine Cg.ctl rfl (fun _=>stepG_cond rfl) ?_;simp only[if_true])
  refine Cg.ctl rfl (fun _=>stepG_skip) ?_;refine Cg.ctl rfl (fun _=>aO) ?_;refine Cg.ctl rfl (fun _=>stepG_block) ?_;refine Cg.ctl rfl (fun _=>stepG_region) ?_
  iterate 4 (refine Cg.pure _ rfl rfl (by k_ne) (fun _=>by go_simp<;>rfl) (fun _=>by simp[go_sem, *]) ?_;walk_nrm)
  refine Cg.call (c:=R8) rfl rfl (by k_ne) rfl Tryz.func76 (by kernel_rfl) rfl ?_
  walk_nrmf Tryz.f76
  refine zzt K n ?_
  walk_nrm
  refine Cg.pure (.agg #[zi n,.string<|cB n es.toList]) rfl rfl (by k_ne) (fun w=>by have E:=Qe n (cB n es.toList) w;simp[bG,Act.eval,E]) (fun w=>by have E:=Qe n (cB n es.toList) w;have F:=ztx n (cB n es.toList) w;simp[bG,Act.eval,E,F,Xr]) ?_
  walk_nrm
  refine Cg.stop fun w hk=>?_;change BV bM C S M o (.agg #[zi n,.string<|cB n es.toList]) (xD bM 245 Wg C S D M o<|dY es (n+1) k) _ w;apply SZ
  case ho=>exact rfl
  case hw=>exact rfl
  case hk=>k_ne
  case hop=>exact rfl
  case hx=>exact rfl
  case hy=>exact rfl
  intro U B;refine cS (m:=m+8) ?_ B
  walk_nrm
  refine Cg.ctl rfl (fun _=>bB) ?_;refine Cg.ctl rfl (fun _=>stepG_inBlock) ?_;refine Cg.ctl rfl (fun _=>stepG_region) ?_
  iterate 3 (refine Cg.pure _ rfl rfl (by k_ne) (fun _=>by go_simp<;>rfl) (fun _=>by simp[go_sem, *]) ?_;walk_nrm)
  refine Cg.ctl rfl (fun _=>bB) ?_;refine Cg.ctl rfl (fun _=>stepG_inLoop) ?_;exact H _ _ _ _ _ _ _ _ _ _ _ _ _ _ _ _ _ _
def za5(Bd Bs Wg:Nat)(fr tt:Int):Deferred:={target:= .fn (.func 169) #[zo Wg,zo Bs,zo Bd],args:=#[zi fr,zi tt]}
def JT(Bd Bs Wg:Nat)(fr tt:Int)(w:Zy):aZ bM bK (born bM<|za5 Bd Bs Wg fr tt) w=
  .go (G ((baseD 169).at ⟨#[zi fr,zi tt,zo Wg,zo Bs,zo Bd,bJ,bJ,bJ,bJ,bJ,bJ,bJ],[]⟩ [.code EK]) [uX]) w #[]:=by
 simp[born,za5,aZ,unwind,callDeferred,invoke,callFunc,Tryz.func169,Tryz.f169,seen,GStep.after,G,Frame.enter,Frame.at,baseD,uX,EK]
def zwm(K:Kn D M Bd Bs C es S o)(g:tt<9223372036854775807)(f:-9223372036854775808<=fr)(k:Nat)(i:fr+k=tt+1)(hk:Kc S M o w):
  xD bM 245 Wg C S D M o (dY es fr k) (born bM<|za5 Bd Bs Wg fr tt) w:=by
 obtain⟨m,h⟩:=rK (Wg:=Wg) K g f k fr i<|Int.le_refl _;refine cS (m:=m+19) ?_ hk;refine Cg.ctl rfl (fun w=>JT Bd Bs Wg fr tt w) ?_;simp only[EK,Tryz.f169,jv];refine Cg.ctl rfl (fun _=>aO) ?_;refine Cg.ctl rfl (fun _=>stepG_region) ?_;refine Cg.ctl rfl (fun _=>stepG_defer rfl rfl (by k_ne) rfl) ?_
 walk_nrm
 refine Cg.ctl rfl (fun _=>bB) ?_;refine Cg.ctl rfl (fun _=>stepG_region) ?_;refine Cg.value (.chan<|bO C) rfl rfl (by k_ne) (fun w hk=>by have d:=K.oL hk;go_simp) (fun w hk e a=>by have d:=K.oL hk;simp[go_sem, *]at a;subst a;exact t_<|.inl K.ss) ?_
 walk_nrm
 refine Cg.value (zo D) rfl rfl (by k_ne) (fun w hk=>by have d:=K.tZ hk;go_simp) (fun w hk e a=>by have d:=K.tZ hk;simp[go_sem, *]at a;subst a;exact t_<|.inl K.sb) ?_
 walk_nrm
 iterate 2 (refine Cg.pure _ rfl rfl (by k_ne) (fun _=>by go_simp<;>rfl) (fun _=>by simp[go_sem, *]) ?_;walk_nrm)
 refine Cg.call (c:=EL) rfl rfl (by k_ne) rfl Tryz.func171 (by kernel_rfl) rfl ?_
 walk_nrmf Tryz.f171
 have b:=h _ ⟨zi fr,bJ,bJ,bJ,bJ,zi fr,bJ,bJ,bJ,bJ,bJ,bJ,bJ,bJ,bJ,bJ,bJ,bJ,rfl⟩;clear h;simp only[CK,GL,EL,Tryz.f171,GM,VJ,EK,Tryz.f169,jv]at b⊢;refine Cg.ctl rfl (fun _=>aO) ?_;refine Cg.ctl rfl (fun _=>aO) ?_;refine Cg.ctl rfl (fun _=>stepG_region) ?_
 iterate 2 (refine Cg.pure _ rfl rfl (by k_ne) (fun _=>by go_simp<;>rfl) (fun _=>by simp[go_sem, *]) ?_;walk_nrm)
 refine Cg.ctl rfl (fun _=>bB) ?_;refine Cg.ctl rfl (fun _=>stepG_block) ?_;refine Cg.ctl rfl (fun _=>stepG_loop) ?_;exact b
end
end
end A
namespace A
open Go Go.Conc
open Go.ConcN (sumTo upd sumTo_upd upd_ne upd_same)
variable [pn:Pn]
section
variable {P:aV} {X:Nat->Prop} {B B':Nat} {Z:Touch->Prop} {t u:Trace} {e:Nat}
structure We(X:ZP)(B:Nat)(Z:Touch->Prop)(e:Nat)(t:Trace):Prop where
 clean:∀said,¬Race said t
 known:∀i a,touchAt t i=bO a->a.loc.isMemory=bL->Knows t 0 i\/(oI X a.loc/\a.kind= .atomic)\/(rZ X a.loc/\a.write=bK)
 over:t.HandedOver
 deaf:Deaf t 0=e
 seen:∀i a,touchAt t i=bO a->a.loc.low B
 EE:∀i a,touchAt t i=bO a->Z a
def qD.mL(h:qD X B t)(b:∀a:Touch,a.loc.low B->Z a):We X B Z 0 t:=⟨h.clean,h.known,h.over,h.hears,h.seen,fun i a c=>b a<|h.seen i a c⟩
def We.mono(h:We X B Z e t)(b:B<=B'):We X B' Z e t:=⟨h.clean,h.known,h.over,h.deaf,fun i a c=>Loc.low_mono b<|h.seen i a c,h.EE⟩
def UK(X:ZP)(B:Nat)(Z:Touch->Prop)(e:Event):Prop:=∀x,(aU e).touch?=bO x->(oI X x.loc->x.kind≠ .plain)/\(rZ X x.loc->x.write=bK)/\x.loc.low B/\Z x
def We.own(h:We X B Z e t){fn:FuncId}{pos:String}{es:Array Event}(r:∀e∈es,UK X B Z e):We X B Z (deafBehind e es)<|t++bD 0 fn pos es:=by
 have s:∀d∈bD 0 fn pos es,d.g=0:=fun d c=>by obtain⟨e,_,rfl⟩:=zy c;rfl
 have q:∀d∈bD 0 fn pos es,∀x,d.act.touch?=bO x->(oI X x.loc->x.kind≠ .plain)/\(rZ X x.loc->x.write=bK)/\x.loc.low B/\Z x:=fun d c x p=>by
  obtain⟨e,w,rfl⟩:=zy c;exact r e w x p
 refine⟨fun said=>noRace_append (h.clean said) s fun i a k d c b v o=>?_,fun i a k y=>?_,handedOver_app h.over fun d c=> .inl (s d c), ?_,fun i a k=>?_,fun i a k=>?_⟩;rcases h.known i a k o.2.1 with hk|⟨m,j⟩|⟨m,j⟩
 exact hk;have l:=(q d c b v).1<|o.1▸m;rcases o.2.2.2 with x|x|⟨_,x,_⟩
 rw[j]at x;cases x;exact absurd x l;rw[j]at x;cases x;have l:=(q d c b v).2.1<|o.1▸m;rcases o.2.2.1 with x|x
 rw[j]at x;cases x;rw[l]at x;cases x;rcases Zo k with⟨_,f⟩|⟨_,d,c,p,_⟩
 exact(h.known i a f y).imp (·.app _) id;have:=knows_own p;rw[s d c]at this;exact .inl this;rw[Deaf_own,h.deaf];rcases Zo k with⟨_,f⟩|⟨_,d,c,p,n⟩
 exact h.seen i a f;exact(q d c a n).2.2.1;rcases Zo k with⟨_,f⟩|⟨_,d,c,p,n⟩
 exact h.EE i a f;exact(q d c a n).2.2.2
def We.mute(h:We X B Z e t){g:Nat}(r:g≠0){fn:FuncId}{pos:String}{es:Array Event}(m:∀e∈es,e.mute=bL):We X B Z e<|t++bD g fn pos es:=by
 have o:∀f∈bD g fn pos es,f.g=g:=fun f c=>by obtain⟨e,_,rfl⟩:=zy c;rfl
 have l:∀f∈bD g fn pos es,f.act.touch?=bN:=fun f c=>by obtain⟨e,q,rfl⟩:=zy c;exact touch_mute<|m e q
 refine⟨fun said=>noRace_append (h.clean said) o fun i a _ f c b n _=>(by rw[l f c]at n;cases n),fun i a k m=>?_,handedOver_app h.over fun f c=> .inr (l f c),(aG t r _ o).trans h.deaf,fun i a k=>?_,fun i a k=>?_⟩;rcases Zo k with⟨_,j⟩|⟨_,f,c,p,d⟩
 exact(h.known i a j m).imp (·.app _) id;rw[l f c]at d;cases d;rcases Zo k with⟨_,j⟩|⟨_,f,c,p,d⟩
 exact h.seen i a j;rw[l f c]at d;cases d;rcases Zo k with⟨_,j⟩|⟨_,f,c,p,d⟩
 exact h.EE i a j;rw[l f c]at d;cases d
def Bo{g:Zg}{Nx:Zg->Zy->Prop}{e':Nat}(m:g.status= .running){q:Nat->Nat}{gs:Array Zg}{v:Zy}{sl:Option<|Nat×Nat}(I:gs[0]?=bO g)(D:Leavers P t gs q)(U:We X B Z e t)
  (h:∀d,∃g' v' es,aZ P bL g (v.at d)= .go g' v' es/\(∀e∈es,UK X B Z e)/\deafBehind e es=e'/\Nx g' v'):
  ∃N gs' v' sl' t' q' g',runNT P N (crowd gs v sl) t=(.next<|crowd gs' v' sl',t')/\gs'[0]?=bO g'/\Nx g' v'/\Leavers P t' gs' q'/\We X B Z e' t'/\gs'.size=gs.size:=by
 induction hk:sumTo gs.size q using Nat.strongRecOn generalizing gs q v sl t with
 |_ k ih=>
  have K:∀g∈gs,awake g:=by
   intro f c;obtain⟨i,n,rfl⟩:=Z1.1 c;rcases jl i with rfl|l
   have:gs[0]=g:=by simpa[xg n]using I
   rw[this];exact awake_of<|.inl m;exact awake_of<|(D.old i _ l<|xg n).status.elim .inl fun x=> .inr (.inr x)
  obtain⟨i,f,d,sl',n,c,F⟩:=crowd_pick (P:=P) (w:=v) (sl:=sl) K ⟨0,g,I,m⟩;have r:i<gs.size:=(za.1 n).1;rcases jl i with rfl|l
  obtain rfl:f=g:=by rw[I]at n;exact(jf n).symm
  obtain⟨g',v',es,hs,M,L,hn⟩:=h d;have b:=runT_crowd_go (sl:=sl') n (show aZ P _ f _=_ from hs);refine⟨1,(gs.map<|woken P f g' v').setIfInBounds 0 g',v',sl',t++bD 0 f.frame.fn f.frame.place es,q,g',by simp only[runNT,F,b],by simp[r],hn,⟨fun j x o C=>?_,fun j o=>?_⟩, ?_,by simp⟩;have s:0≠j:=by omega
  rw[zd s,jj]at C;obtain⟨y,R,rfl⟩:=zt.1 C;have z:=D.old j y o R;rw[woken_quitsD z,aG t (by omega) _ fun S a=>by obtain⟨e,_,rfl⟩:=zy a;rfl];exact z;rw[aG t (g':=0) (by simp at o;omega) _ fun S a=>by obtain⟨e,_,rfl⟩:=zy a;rfl];exact D.above j (by simpa using o);rw[<-L];exact U.own M;have z:=D.old i f l n;have O:(i==0)=bK:=by simp;omega
  cases hqi:q i with
  |zero=>rw[hqi]at z;rw[z.1]at c;cases c
  |succ k'=>
   rw[hqi]at z;rcases z with⟨hf,_⟩|⟨_,g',es,hm,G,Q⟩
   rw[hf]at c;cases c;have b:=runT_crowd_go (sl:=sl') n (by rw[O];exact G<|v.at d);have H:((gs.map<|woken P f g'<|v.at d).setIfInBounds i g').size=gs.size:=by simp
   have V:sumTo gs.size (upd q i k')+(k'+1)=sumTo gs.size q+k':=by
    have:=sumTo_upd q k' id r;simpa[hqi]using this
   obtain⟨N,J,v2,T,t2,q2,g2,W,Y,b3,b4,b5,b6⟩:=ih (sumTo gs.size<|upd q i k') (by omega) (q:=upd q i k') (t:=t++bD i f.frame.fn f.frame.place es) (gs:=(gs.map<|woken P f g'<|v.at d).setIfInBounds i g') (v:=v.at d) (sl:=sl')
    (by
     have s:i≠0:=by omega
     rw[zd s,jj,I];simp[woken_run m])
    ⟨fun j x o C=>by
     by_cases p:i=j;subst p;rw[zx<|by simpa using r]at C;obtain rfl:=jf C;rw[upd_same,Deaf_own];exact Q;rw[zd p,jj]at C;obtain⟨y,R,rfl⟩:=zt.1 C;have E:=D.old j y o R;rw[woken_quitsD E,upd_ne q k'<|aL p,aG t p _ fun S a=>by obtain⟨e,_,rfl⟩:=zy a;rfl];exact E,fun j o=>by
     rw[aG t (g':=i) (by simp at o;omega) _ fun S a=>by obtain⟨e,_,rfl⟩:=zy a;rfl];exact D.above j<|by simpa using o⟩
    (U.mute (by omega) hm) (fun d'=>h d') (by rw[H])
   exact⟨1+N,J,v2,T,t2,q2,g2,ql (by simp only[runNT,F,b]) W,Y,b3,b4,b5,b6.trans H⟩
def RY{E:Event->Prop}(b:∀e,E e->xR X B e/\∀x,(aU e).touch?=bO x->Z x){Stop:Zg->Zy->Prop}:∀(n:Nat) {a:Zg} {v:Zy} {t:Trace} {q:Nat->Nat} {gs:Array Zg} {sl:Option<|Nat×Nat},Goes P bL AtRel (DE E) Stop n a v->gs[0]?=bO a->Leavers P t gs q->We X B Z e t->
  ∃N gs' v' sl' t' q' a',runNT P N (crowd gs v sl) t=(.next<|crowd gs' v' sl',t')/\gs'[0]?=bO a'/\(∀d,Stop a'<|v'.at d)/\Leavers P t' gs' q'/\We X B Z e t'/\gs'.size=gs.size
 |0,a,v,t,q,gs,sl,h,h0,hL,hP=>⟨0,gs,v,sl,t,q,a,rfl,h0,fun d=>h _ ⟨d,rfl⟩,hL,hP,rfl⟩
 |n+1,a,v,t,q,gs,sl,h,h0,hL,hP=>by
  rcases h with h|⟨J,h⟩;exact⟨0,gs,v,sl,t,q,a,rfl,h0,fun d=>h _ ⟨d,rfl⟩,hL,hP,rfl⟩;obtain⟨N,H,S,i,R,Q,O,m,o,p,r,s,w⟩:=Bo (Nx:=fun G v'=>Goes P bL AtRel (DE E) Stop n G v') (e':=e) (sl:=sl) J h0 hL hP (fun d=>by
   have:=h _ ⟨d,rfl⟩;revert this;cases hst:aZ P bL a (v.at d)<;>simp only[GStep.goes]<;>(try exact False.elim)
   rintro⟨hd,I⟩;exact⟨_,_,_,rfl,fun e c x f=>⟨((b e<|hd e c).1.1 x f).1,((b e<|hd e c).1.1 x f).2.1,((b e<|hd e c).1.1 x f).2.2,(b e<|hd e c).2 x f⟩,deafBehind_still (fun e c=>(b e<|hd e c).1.2) _,I⟩)
  obtain⟨k,g,M,j,L,K,l,y,z,C,D,c5,F⟩:=RY b n (sl:=i) p o r s;exact⟨N+k,g,M,j,L,K,l,ql m y,z,C,D,c5,F.trans w⟩
end
end A
namespace A
open Go Go.Conc
open Go.ConcN (sumTo)
variable [pn:Pn]
section
variable {sl:Option<|Nat×Nat}
section
variable {P:aV} {X:Nat->Prop} {B:Nat} {Z:Touch->Prop} {t:Trace} {e:Nat}
def s_{ev:Event}(h:(aU ev).touch?=bN):UK X B Z ev:=fun x a=>by rw[h]at a;cases a
def Ci{m:Mark}(i:(aU<|Go.ConcX.mk m).touch?=bN){Next:Zg->Zy->Prop}{a:Zg}{v:Zy}{q:Nat->Nat}{gs:Array Zg}(h:∀d,Go.ConcX.AtMkS P m Next a<|v.at d)(c:gs[0]?=bO a)(f:Leavers P t gs q)(g:We X B Z e t):
  ∃N gs' v' sl' t' q' a',runNT P N (crowd gs v sl) t=(.next<|crowd gs' v' sl',t')/\gs'[0]?=bO a'/\Next a' v'/\Leavers P t' gs' q'/\We X B Z (deafBehind e #[Go.ConcX.mk m]) t'/\gs'.size=gs.size:=
 Bo (h 0).1 c f g fun d=>by
  obtain⟨_,a',k,j⟩:=h d;exact⟨a',_,_,k,fun l b=>by rw[Array.mem_singleton]at b;subst b;exact s_ i,rfl,j⟩
def xpz{E:Event->Prop}(c:∀e,E e->xR X B e/\∀x,(aU e).touch?=bO x->Z x){Stop:Zg->Zy->Prop}{n:Nat}{a:Zg}{v:Zy}{q:Nat->Nat}{gs:Array Zg}
  (h:Goes P bL AtRel (DE E) (Go.ConcX.AtMkS P .disable fun a w=>∃n,Goes P bL AtRel (DE E) (Go.ConcX.AtMkS P .enable fun a w=>∃n,Goes P bL AtRel (DE E) Stop n a w) n a w) n a v)
  (h0:gs[0]?=bO a)(hL:Leavers P t gs q)(hP:We X B Z 0 t):
  ∃N gs' v' sl' t' q' a',runNT P N (crowd gs v sl) t=(.next<|crowd gs' v' sl',t')/\gs'[0]?=bO a'/\(∀d,Stop a'<|v'.at d)/\Leavers P t' gs' q'/\We X B Z 0 t'/\gs'.size=gs.size:=by
 obtain⟨s,W,v1,f,t1,q1,a1,r1,L,S,l,F,z1⟩:=RY (sl:=sl) c n h h0 hL hP;obtain⟨y,Y,v2,g,t2,q2,a2,r2,M,⟨n2,T⟩,m,G,z2⟩:=Ci (sl:=f) rfl S L l F;obtain⟨z,ba,v3,i,t3,q3,a3,r3,O,U,o,H,z3⟩:=RY (sl:=g) c n2 T M m G;obtain⟨C,bb,v4,j,t4,q4,a4,r4,Q,⟨n4,V⟩,p,I,z4⟩:=Ci (sl:=i) rfl U O o H;obtain⟨D,b,v5,k,t5,q5,K,r5,R,c5,r,J,z5⟩:=RY (sl:=j) c n4 V Q p I;refine⟨s+(y+(z+(C+D))),b,v5,k,t5,q5,K,ql r1<|ql r2<|ql r3<|ql r4 r5,R,c5,r, ?_,by rw[z5,z4,z3,z2,z1]⟩;exact J
@[reducible] def Ie(X:ZP)(B Wg C:Nat)(hW:Wg<B)(hC:C<B)(hX:¬X C):Go.ConcX.Shy Wg C where
 ok a:=∀x,a.touch?=bO x->(oI X x.loc->x.kind≠ .plain)/\(rZ X x.loc->x.write=bK)/\x.loc.low B/\∀r,x.loc≠ .obj r
 atomicWg a wr h x hx:=by
  simp only[aR,zp]at hx;subst hx;exact⟨fun _=>by simp,fun⟨r,e,_⟩=>(by cases e),(by simp only[Loc.low];omega),fun r e=>(by cases e)⟩
 readWg a h x hx:=by
  simp only[aR,zp]at hx;subst hx;exact⟨fun _=>by simp,fun⟨r,e,_⟩=>(by cases e),(by simp only[Loc.low];omega),fun r e=>(by cases e)⟩
 writeWg a h x hx:=by
  simp only[aR,zp]at hx;subst hx;exact⟨fun _=>by simp,fun⟨r,e,_⟩=>(by cases e),(by simp only[Loc.low];omega),fun r e=>(by cases e)⟩
 theirs a wr h x hx:=by
  simp only[aR,zp]at hx;subst hx;refine⟨fun⟨r,e,hr⟩=>?_,fun⟨r,e,_⟩=>(by cases e),(by simp only[Loc.low];omega),fun r e=>(by cases e)⟩;cases e;rw[h]at hr;exact absurd hr hX
 disable x hx:=by cases hx
 enable x hx:=by cases hx
 relMerge x hx:=by cases hx
 acquire x hx:=by cases hx
 go1 x hx:=by cases hx
 start x hx:=by cases hx
 stop _ _:=True
end
section
variable {P:aV} {X:Nat->Prop}
theorem Sm.FW{w v:Zy}(h:Sm P X w v){r:Nat}{o':Obj}(f:v.heap[r]?=bO o')(ho:dL P<|bO o'):Sm P (fun x=>X x/\x≠r) {w with heap:=w.heap.setIfInBounds r o'} v:=by
 have c:r<w.heap.size:=by rw[<-h.size];exact(za.1 f).1
 refine⟨by simp[h.size],fun x b=>?_,fun x b=>?_,fun x=>?_,h.tape,h.drawn,h.os,h.output,⟨by simp only[Xf];exact h.pin.1,fun x b g=>by
  rw[show({w with heap:=w.heap.setIfInBounds r o'}:Zy).heap=w.heap.setIfInBounds r o' from rfl,zd<|aL b.2];exact h.pin.2 x b.1 g⟩⟩
 by_cases a:r=x;subst a;rw[show({w with heap:=w.heap.setIfInBounds r o'}:Zy).heap=w.heap.setIfInBounds r o' from rfl,zx c];exact f;rw[show({w with heap:=w.heap.setIfInBounds r o'}:Zy).heap=w.heap.setIfInBounds r o' from rfl,zd a];exact h.out x fun d=>b ⟨d,fun e=>a e.symm⟩;rw[show({w with heap:=w.heap.setIfInBounds r o'}:Zy).heap=w.heap.setIfInBounds r o' from rfl,zd<|aL b.2];exact h.dead x b.1;by_cases a:r=x;subst a;rw[show({w with heap:=w.heap.setIfInBounds r o'}:Zy).heap=w.heap.setIfInBounds r o' from rfl,zx c];exact ho;rw[show({w with heap:=w.heap.setIfInBounds r o'}:Zy).heap=w.heap.setIfInBounds r o' from rfl,zd a];exact h.oks x
end
end
end A
namespace A
open Go Go.Conc
variable [pn:Pn]
section
variable {a:Act} {K:Act→Zy→Prop}
section
variable {P:aV} {main:Bool} {R:World->World->Prop} {D:World->World->Array Event->Prop} {S:World->Prop} {ops:Array aD} {b:Frame} {k:List Item} {cs:List Frame} {Stop:aS->World->Prop} {n last:Nat} {I:Nat->Array Bool->Act->Prop}
def zx9(T:Terms R D)(s:∀x y,S x->R x y->S y)(hk:b.kind≠ .early)(E:∀l a,¬I 0 l a)(z:∀m l a,I (m+1) l a->Region.ready .any ops l≠[])
  (f:∀m l a,I (m+1) l a->∀i∈Region.ready .any ops l,
   (∃o v,ops[i]?=bO o/\aX o (yielded ops a.tmps)=bL/\(∀w,S w->(bG a.eval o).run P w= .ok (.value v) w/\D w w (listed P b.fn a o w))/\I m (l.setIfInBounds i bL) (a.put o.dst v))\/
   (i=last/\Region.ready .any ops (l.setIfInBounds i bL)=[]/\∀w,S w->Goes P main R D Stop n (G (b.at a (.inRegion ops [last]::k)) cs) w)):
  ∀(m t:Nat) (l:Array Bool) (a:Act) (w:Zy),I m l a->S w->Goes P main R D Stop (n+m) (G (b.at a (.inRegion ops (aC .any ops m t l [])::k)) cs) w:=by
 intro m;induction m with
 |zero=>exact fun t l a w p=>absurd p<|E _ _
 |succ m ih=>
  intro t l a w p B;have F:aC .any ops (m+1) t l []=match(Region.ready .any ops l)[t%(Region.ready .any ops l).length]?with
   |some i=>aC .any ops m (t/(Region.ready .any ops l).length) (l.setIfInBounds i bL) [i]
   |none=>[].reverse:=rfl
  rw[F];have j:t%(Region.ready .any ops l).length<(Region.ready .any ops l).length:=Nat.mod_lt _ (by
   cases q:Region.ready .any ops l with
   |nil=>exact absurd q<|z _ _ _ p
   |cons x xs=>simp)
  rw[Yh j];simp only[];rw[linearise_go_acc,XW,Wm];rcases f m l a p _ (Zn j)with⟨o,v,H,J,q,r⟩|⟨e,c,g⟩
  have:n+(m+1)=(n+m)+1:=by omega
  rw[this];refine Goes.step rfl fun C K=>?_;have d:=s _ _ B K;rw[stepG_value H J hk (q C d).1];exact⟨(q C d).2,ih _ _ _ _ r d⟩;rw[e]at c⊢;have h:aC .any ops m (t/(Region.ready .any ops l).length) (l.setIfInBounds last bL) []=[]:=by
   cases m with
   |zero=>rfl
   |succ m=>
    have:aC .any ops (m+1) (t/(Region.ready .any ops l).length) (l.setIfInBounds last bL) []=match(Region.ready .any ops<|l.setIfInBounds last bL)[t/(Region.ready .any ops l).length%(Region.ready .any ops<|l.setIfInBounds last bL).length]?with
     |some i=>aC .any ops m (t/(Region.ready .any ops l).length/(Region.ready .any ops<|l.setIfInBounds last bL).length) ((l.setIfInBounds last bL).setIfInBounds i bL) [i]
     |none=>[].reverse:=rfl
    rw[this,c];rfl
  rw[h];exact(g w B).mono<|by omega
def zu0(T:Terms R D)(hd:LetsDraw D)(f:∀w:Zy,S w->S {w with drawn:=w.drawn+1})(e:Region.departs ops=bK)(d:∀x y,S x->R x y->S y)(hk:b.kind≠ .early)(h:∀l a,¬I 0 l a)(g:∀m l a,I (m+1) l a->Region.ready .any ops l≠[])
  (c:∀m l a,I (m+1) l a->∀i∈Region.ready .any ops l,
   (∃o v,ops[i]?=bO o/\aX o (yielded ops a.tmps)=bL/\(∀w,S w->(bG a.eval o).run P w= .ok (.value v) w/\D w w (listed P b.fn a o w))/\I m (l.setIfInBounds i bL) (a.put o.dst v))\/
   (i=last/\Region.ready .any ops (l.setIfInBounds i bL)=[]/\∀w,S w->Goes P main R D Stop n (G (b.at a (.inRegion ops [last]::k)) cs) w))
  {id:Nat}{w:Zy}(j:I ops.size (aW ops.size bK) a)(p:S w):Goes P main R D Stop (n+ops.size+1) (G (b.at a (.code (.region id ops bL)::k)) cs) w:=by
 refine Goes.step rfl fun s r=>?_;rw[stepG_region_draw];refine⟨hd _, ?_⟩;have q:∀t,Region.schedule (P.follows .mixedOrders) ops t=Region.linearise .any ops t:=fun t=>by simp[Region.schedule,e]
 rw[q];exact zx9 T d hk h g c _ _ _ a _ j<|f _<|d _ _ p r
end
section
variable {P:aV} {main:Bool} {R:World->World->Prop} {D:World->World->Array Event->Prop} {ops:Array aD} {b:Frame} {k:List Item} {cs:List Frame} {Stop:aS->World->Prop} {n:Nat} {I:Nat->Array Bool->Act->World->Prop}
def vL(P:Zp)(main:Bool)(D:Zy->Zy->Array Event->Prop)(b:Zf)(k:List Item)(cs:List Zf)(ops:Array aD)(i:Nat)(a:Act)(w:Zy)(K:Act->Zy->Prop):Prop:=
 ∃a' w' es,(∀rest,aZ P main (G (b.at a (.inRegion ops (i::rest)::k)) cs) w= .go (G (b.at a' (.inRegion ops rest::k)) cs) w' es)/\D w w' es/\K a' w'
def vL.value{i:Nat}{o:aD}{w w':Zy}{v:Zv}(hk:b.kind≠ .early)(ho:ops[i]?=bO o)(hw:aX o (yielded ops a.tmps)=bL)(d:(bG a.eval o).run P w= .ok (.value v) w')(hd:D w w'<|listed P b.fn a o w)(h:K (a.put o.dst v) w'):vL P main D b k cs ops i a w K:=
 ⟨_,_,_,fun c=>stepG_value ho hw hk d,hd,h⟩
def vL.none{i:Nat}{o:aD}{w w':Zy}(hk:b.kind≠ .early)(ho:ops[i]?=bO o)(hw:aX o (yielded ops a.tmps)=bL)(d:(bG a.eval o).run P w= .ok .skip w')(hd:D w w'<|listed P b.fn a o w)(h:K (a.put o.dst bJ) w'):vL P main D b k cs ops i a w K:=
 ⟨_,_,_,fun c=>stepG_none ho hw hk d,hd,h⟩
def zwr(o:∀m l a w w₁,I m l a w->R w w₁->I m l a w₁)
  (d:∀m l a w,I m l a w->Region.ready .any ops l=[]->Goes P main R D Stop n (G (b.at a (.inRegion ops []::k)) cs) w)(j:∀l a w,I 0 l a w->Region.ready .any ops l=[])
  (e:∀m l a w,I (m+1) l a w->∀i∈Region.ready .any ops l,vL P main D b k cs ops i a w<|I m<|l.setIfInBounds i bL):
  ∀(m t:Nat) (l:Array Bool) (a:Act) (w:Zy),I m l a w->Goes P main R D Stop (n+m) (G (b.at a (.inRegion ops (aC .any ops m t l [])::k)) cs) w:=by
 intro m;induction m with
 |zero=>exact fun t l a w f=>d _ _ _ _ f<|j _ _ _ f
 |succ m ih=>
  intro t l a w f;have p:aC .any ops (m+1) t l []=match(Region.ready .any ops l)[t%(Region.ready .any ops l).length]?with
   |some i=>aC .any ops m (t/(Region.ready .any ops l).length) (l.setIfInBounds i bL) [i]
   |none=>[].reverse:=rfl
  rw[p];by_cases c:Region.ready .any ops l=[];rw[c];exact(d _ _ _ _ f c).mono (by omega);have g:t%(Region.ready .any ops l).length<(Region.ready .any ops l).length:=Nat.mod_lt _ (by
   cases hr:Region.ready .any ops l with
   |nil=>exact absurd hr c
   |cons x xs=>simp)
  rw[Yh g];simp only[];rw[linearise_go_acc,XW,Wm];have:n+(m+1)=(n+m)+1:=by omega
  rw[this];refine Goes.step rfl fun w₁ r=>?_;obtain⟨s,y,v,q,hd,h⟩:=e m l a w₁ (o _ _ _ _ _ f r) _<|Zn g;rw[q];exact⟨hd,ih _ _ _ _ h⟩
def zt4(hd:LetsDraw D)(d:Region.departs ops=bK)(g:∀m l a w w₁,I m l a w->R w w₁->I m l a w₁)(f:∀m l a (w:Zy),I m l a w->I m l a {w with drawn:=w.drawn+1})
  (e:∀m l a w,I m l a w->Region.ready .any ops l=[]->Goes P main R D Stop n (G (b.at a (.inRegion ops []::k)) cs) w)(h:∀l a w,I 0 l a w->Region.ready .any ops l=[])
  (c:∀m l a w,I (m+1) l a w->∀i∈Region.ready .any ops l,vL P main D b k cs ops i a w<|I m<|l.setIfInBounds i bL)
  {id:Nat}{w:Zy}(j:I ops.size (aW ops.size bK) a w):Goes P main R D Stop (n+ops.size+1) (G (b.at a (.code (.region id ops bL)::k)) cs) w:=by
 refine Goes.step rfl fun w₁ p=>?_;rw[stepG_region_draw];refine⟨hd _, ?_⟩;have o:∀t,Region.schedule (P.follows .mixedOrders) ops t=Region.linearise .any ops t:=fun t=>by simp[Region.schedule,d]
 rw[o];exact zwr g e h c _ _ _ a _<|f _ _ _ _<|g _ _ _ _ _ j p
end
end
end A
namespace A
open Go Go.Conc Go.RowKit Go.Conc.Lib
variable [pn:Pn] [py:Go.ConcR.Payload]
noncomputable def vF:Code:=Tryz.f106.body.getD .skip
noncomputable def nO:Array aD:=match vF with| .seq _ (.seq _<|.seq _<|.seq _<|.seq _<|.seq (.region _ ops _) _)=>ops|_=>#[]
section
variable {Lb Bd Bs Wg:Nat} {bs ls:Int} {E:Event->Prop}
structure SL(Lb:Nat)(bs ls:Int)(w:Zy):Prop where
 base:w.cell? (zq Lb 11)=bO (zi bs)
 last:w.cell? (zq Lb 12)=bO (zi ls)
abbrev Ox(E:Event->Prop)(a:Act)(o:aD)(v:Zv)(w:Zy):Prop:=(bG a.eval o).run bM w= .ok (.value v) w/\DE E w w (listed bM 106 a o w)
abbrev CZ(ops:Array aD)(i:Nat)(d:Option Tmp)(op:Op):Prop:=(ops[i]?.map fun o=>(o.guard.isNone,o.dst,o.op))=bO (bL,d,op)
def CZ.get{ops:Array aD}{i:Nat}{d:Option Tmp}{op:Op}(h:CZ ops i d op):∃o,ops[i]?=bO o/\o.dst=d/\o.op=op/\∀y,aX o y=bL:=by
 unfold CZ at h;cases e:ops[i]?with
 |none=>rw[e]at h;cases h
 |some o=>
  rw[e]at h;simp only[js,zp,qg,Option.isNone_iff_eq_none]at h;exact⟨o,rfl,h.2.1,h.2.2,fun y=>by simp[aX,h.1]⟩
section
variable {o:aD} {a:Act} {w:World} {v:Value} {n j:Nat}
def OH(hop:o.op= .move (.tmp n))(h:a.eval (.tmp n)=v):Ox E a o v w:=by
 constructor
 ·unfold bG;simp only[hop,h];simp[go_sem]
 intro e c;have b:=mem_listed c;unfold bG at b;simp only[hop,h]at b;simp[go_sem]at b
def OJ(hop:o.op= .nilCheck (.tmp n)){x:Addr}(h:a.eval (.tmp n)= .pointer (bO x)):Ox E a o (.pointer<|bO x) w:=by
 constructor
 ·unfold bG;simp only[hop,h];simp[go_sem]
 intro e c;have b:=mem_listed c;unfold bG at b;simp only[hop,h]at b;simp[go_sem]at b
def OD(d:j=7\/j=8)(hop:o.op= .fieldAddr 122 (.tmp n) j)(h:a.eval (.tmp n)=zo Lb):Ox E a o (zk Lb<|j+4) w:=by
 rcases d with rfl|rfl
 all_goals
  constructor
  ·unfold bG;simp only[hop,h];simp[go_sem]
  intro e c;have b:=mem_listed c;unfold bG at b;simp only[hop,h]at b;simp[go_sem]at b
def OG(d:∀x:Addr,x.block=Lb->E ⟨.cell x,bK,bK⟩){z:Int}(hop:o.op= .load 3 (.tmp n))(h:a.eval (.tmp n)=zk Lb j)(c:w.cell? (zq Lb j)=bO (zi z)):Ox E a o (zi z) w:=by
 constructor
 ·unfold bG;simp only[hop,h];simp[go_sem,c]
 intro e f;have b:=mem_listed f;unfold bG at b;simp only[hop,h]at b;simp[go_sem,c]at b;subst b;exact d _ rfl
def xr1(hw:IntKind.i64.wrap (bs+1)=bs+1)(hop:o.op= .binOp .add 3 (.tmp n) (.const<|zi 1) 3)(h:a.eval (.tmp n)=zi bs):Ox E a o (zi<|bs+1) w:=by
 constructor
 ·unfold bG;simp only[hop,h];simp[go_sem,hw]
 intro e c;have b:=mem_listed c;unfold bG at b;simp only[hop,h]at b;simp[go_sem,hw]at b
def xus(hop:o.op= .makeFunc (.func 169) #[] #[.tmp 5,.tmp 4,.tmp 3]):Ox E a o (.func (.func 169) #[] #[a.eval<|.tmp 5,a.eval<|.tmp 4,a.eval<|.tmp 3]) w:=by
 constructor
 ·unfold bG;simp only[hop];simp[go_sem,Instr.makeFunc]
 intro e c;have b:=mem_listed c;unfold bG at b;simp only[hop]at b;simp[go_sem,Instr.makeFunc,Xr]at b
end
def Ly:Terms AtRel<|DE E:=⟨atRel_trans,fun w e a=>by simp at a⟩
def Bu:LetsDraw<|DE E:=fun w e a=>by simp at a
def SL.at{w w₁:Zy}(h:SL Lb bs ls w)(r:AtRel w w₁):SL Lb bs ls w₁:=by obtain⟨d,rfl⟩:=r;exact⟨h.base,h.last⟩
abbrev l5(r p q:Nat):Array Bool:=#[decide (1<=r),decide (1<=p),decide (2<=p),decide (3<=p),decide (4<=p),decide (5<=p),decide (1<=q),decide (2<=q),decide (3<=q),decide (4<=q),bK]
def Al(r:Nat)(d:r<2)(p:Nat)(b:p<6)(q:Nat)(c:q<5):Region.ready .any nO (l5 r p q)≠[]/\∀i∈Region.ready .any nO (l5 r p q),(i=0/\r=0)\/(i=p+1/\p<5)\/(i=q+6/\q<4)\/(i=10/\r=1/\p=5/\q=4):=by
 have h:∀(r:_root_.Fin 2) (p:_root_.Fin 6) (q:_root_.Fin 5),(!(Region.ready .any nO<|l5 r p q).isEmpty&&(Region.ready .any nO<|l5 r p q).all fun i=>decide ((i=0/\r.val=0)\/(i=p+1/\p.val<5)\/(i=q+6/\q.val<4)\/(i=10/\r.val=1/\p.val=5/\q.val=4)))=bL:=by decide+kernel
 have:=h ⟨r,d⟩ ⟨p,b⟩ ⟨q,c⟩;rw[xl,PY]at this;exact⟨fun e=>(by rw[e]at this;cases this.1),fun i a=>Xj<|this.2 i a⟩
def I5(Lb Bd Bs Wg:Nat)(bs ls:Int)(y1 y2 y6 y7 y8 y9 nY y11 y12 y13 y14 y15 y16 y17 y18 y19 y20 y21 y22 y23 y24 y25 y26 y27 y28 y29 y30 y31 y32 gV y34:Zv)(ds:List Deferred)(m:Nat)(l:Array Bool)(a:Act):Prop:=∃r p q,r<2/\p<6/\q<5/\l=l5 r p q/\m+(r+p+q)=11/\a=⟨#[zo Lb,y1,y2,zo Bd,zo Bs,zo Wg,y6,y7,y8,y9,nY,y11,y12,y13,y14,y15,y16,y17,(if 1<=r then .func (.func 169) #[] #[zo Wg,zo Bs,zo Bd]else y18),(if 1<=p then zo Lb else y19),(if 2<=p then zo Lb else y20),(if 3<=p then zk Lb 11 else y21),(if 4<=p then zi bs else y22),(if 5<=p then zi (bs+1)else y23),(if 1<=q then zo Lb else y24),(if 2<=q then zo Lb else y25),(if 3<=q then zk Lb 12 else y26),(if 4<=q then zi ls else y27),y28,y29,y30,y31,y32,gV,y34],ds⟩
def S5(g:∀x:Addr,x.block=Lb->E ⟨.cell x,bK,bK⟩)(hw:IntKind.i64.wrap (bs+1)=bs+1){k:List Item}{cs:List Zf}{Stop:Zg->Zy->Prop}{n:Nat}{y1 y2 y6 y7 y8 y9 nY y11 y12 y13 y14 y15 y16 y17 y18 y19 y20 y21 y22 y23 y24 y25 y26 y27 y28 y29 y30 y31 y32 gV y34:Zv}{ds:List Deferred}
  {w:Zy}(f:∀w',AtRel w w'->Goes bM bL AtRel (DE E) Stop n (G ((base 106).at ⟨#[zo Lb,y1,y2,zo Bd,zo Bs,zo Wg,y6,y7,y8,y9,nY,y11,y12,y13,y14,y15,y16,y17,.func (.func 169) #[] #[zo Wg,zo Bs,zo Bd],zo Lb,zo Lb,zk Lb 11,zi bs,zi<|bs+1,zo Lb,zo Lb,zk Lb 12,zi ls,y28,y29,y30,y31,y32,gV,y34],ds⟩ (.inRegion nO [10]::k)) cs) w')(C:SL Lb bs ls w):
  Goes bM bL AtRel (DE E) Stop (n+11+1) (G ((base 106).at ⟨#[zo Lb,y1,y2,zo Bd,zo Bs,zo Wg,y6,y7,y8,y9,nY,y11,y12,y13,y14,y15,y16,y17,y18,y19,y20,y21,y22,y23,y24,y25,y26,y27,y28,y29,y30,y31,y32,gV,y34],ds⟩ (.code (.region 5 nO bL)::k)) cs) w:=by
 refine zu0 (S:=fun w'=>SL Lb bs ls w'/\AtRel w w') (I:=I5 Lb Bd Bs Wg bs ls y1 y2 y6 y7 y8 y9 nY y11 y12 y13 y14 y15 y16 y17 y18 y19 y20 y21 y22 y23 y24 y25 y26 y27 y28 y29 y30 y31 y32 gV y34 ds) (last:=10) Ly Bu (fun w h=>⟨h.1.at ⟨_,rfl⟩,atRel_trans _ _ _ h.2 ⟨_,rfl⟩⟩) (by kernel_rfl) (fun _ _ h r=>⟨h.1.at r,atRel_trans _ _ _ h.2 r⟩) (by decide) ?_ ?_ ?_ ?_ ⟨C,atRel_refl _⟩;rintro l a ⟨r,p,q,_,_,_,_,_,_⟩;omega;rintro m l a ⟨r,p,q,b,e,c,rfl,_⟩;exact(Al r b p e q c).1;rintro m l a ⟨r,p,q,b,e,c,rfl,H,rfl⟩ i D;have K:∀{a:Act} (d op) {v} {I:Act->Prop} {S:Zy->Prop},(nO[i]?.map fun o=>(o.guard.isNone,o.dst,o.op))=bO (bL,d,op)->(∀o,o.op=op->∀w,S w->Ox E a o v w)->I (a.put d v)->∃o v,nO[i]?=bO o/\aX o (yielded nO a.tmps)=bL/\(∀w,S w->Ox E a o v w)/\I (a.put o.dst v):=by
  intro a d op v I S h F B;obtain⟨o,t,rfl,y,z⟩:=CZ.get h;exact⟨o,v,t,z _,F o y,B⟩
 rcases(Al r b p e q c).2 i D with⟨rfl,rfl⟩|⟨rfl,h⟩|⟨rfl,h⟩|⟨rfl,rfl,rfl,rfl⟩
 exact .inl<|K (bO 18) _ (by kernel_rfl) (fun o h w _=>xus h) ⟨1,p,q,by omega,e,c,rfl,by omega,rfl⟩;obtain rfl|rfl|rfl|rfl|rfl:p=0\/p=1\/p=2\/p=3\/p=4:=by omega
 exact .inl<|K (bO 19) (.move<|.tmp 0) (by kernel_rfl) (fun o h w _=>OH h rfl) ⟨r,1,q,b,by omega,c,rfl,by omega,rfl⟩;exact .inl<|K (bO 20) (.nilCheck<|.tmp 19) (by kernel_rfl) (fun o h w _=>OJ h rfl) ⟨r,2,q,b,by omega,c,rfl,by omega,rfl⟩;exact .inl<|K (bO 21) (.fieldAddr 122 (.tmp 20) 7) (by kernel_rfl) (fun o h w _=>OD (.inl rfl) h rfl) ⟨r,3,q,b,by omega,c,rfl,by omega,rfl⟩;exact .inl<|K (bO 22) (.load 3<|.tmp 21) (by kernel_rfl) (fun o h w s=>OG g h rfl s.1.base) ⟨r,4,q,b,by omega,c,rfl,by omega,rfl⟩;exact .inl<|K (bO 23) (.binOp .add 3 (.tmp 22) _ 3) (by kernel_rfl) (fun o h w _=>xr1 hw h rfl) ⟨r,5,q,b,by omega,c,rfl,by omega,rfl⟩;obtain rfl|rfl|rfl|rfl:q=0\/q=1\/q=2\/q=3:=by omega
 exact .inl<|K (bO 24) (.move<|.tmp 0) (by kernel_rfl) (fun o h w _=>OH h rfl) ⟨r,p,1,b,e,by omega,rfl,by omega,rfl⟩;exact .inl<|K (bO 25) (.nilCheck<|.tmp 24) (by kernel_rfl) (fun o h w _=>OJ h rfl) ⟨r,p,2,b,e,by omega,rfl,by omega,rfl⟩;exact .inl<|K (bO 26) (.fieldAddr 122 (.tmp 25) 8) (by kernel_rfl) (fun o h w _=>OD (.inr rfl) h rfl) ⟨r,p,3,b,e,by omega,rfl,by omega,rfl⟩;exact .inl<|K (bO 27) (.load 3<|.tmp 26) (by kernel_rfl) (fun o h w s=>OG g h rfl s.1.last) ⟨r,p,4,b,e,by omega,rfl,by omega,rfl⟩;exact .inr ⟨rfl,(by kernel_rfl),fun w' j=>f w' j.2⟩;exact⟨0,0,0,by decide,by decide,by decide,rfl,rfl,rfl⟩
end
end A
end Go.Proofs.YtjnbhiamaabbgaaGreatDoor
