import Derived.Test.YtjnbhiamaabbgabGreatDoorM1
import Derived.Test.YtjnbhiamaabbgabGreatDoorM4
import Derived.Deep.Upon
set_option linter.all false
set_option maxRecDepth 100000
set_option maxHeartbeats 8000000
namespace Go.Proofs.YtjnbhiamaabbgabGreatDoor
open Bool renaming false->bK,true->bL
open Go renaming MapEntry->aK,Oper->aD,Program->aV,execOp->bG,results->aN,stepG->aZ,undef->bJ
open Go.Frame renaming enter->bF
open Go.Proofs.Tryz renaming prog->bM
open Go.stepG renaming exec->bI
open Option renaming none->bN,some->bO
open _root_.Array renaming replicate->aW
namespace A
open Tryq Go Go.Conc
section
variable [pn:Pn]
section
variable {k:List Item} {ops:Array aD} {i:Nat} {o:aD} {Q:Exit→Act→Zy→Prop} {a:Addr} {f:FuncId} {rest:List Nat} {w:Zy} {d:Nat} {fn:FuncId}
def cG(P:Zp)(F:Zc):∀d t,(wf P F).holdsStoodIn d t=P.holdsStoodIn d t:=by
 intro d;induction d with
 |zero=>intro t;rfl
 |succ d ih=>intro t;simp only[Program.holdsStoodIn,Jz,wW,ih]
namespace Odd160
structure Tb(p:Zp):Prop where
 u1:p.underlying 221=bO (.pointer 223)
 u2:p.underlying 327=bO .unsafePointer
 u3:p.underlying 223=bO (.struct MH)
 s1:(p.info? 221).map (·.size)=bO 1
 s2:(p.info? 223).map (·.size)=bO 2
def Ao:Tb bM:=⟨Ij,Il,Ik,Ia,Ib⟩
def GJ:Tb<|wf bM funcs:=⟨by rw[Jz];exact Ij,by rw[Jz];exact Il,by rw[Jz];exact Ik,by rw[BG];exact Ia,by rw[BG];exact Ib⟩
section
variable {p:aV} (T:Tb p)
def xts(T:Tb p){u:Zy}{c:Za}{e:Zt}{f:Nat×Nat}(g:u.heap[a.block]?=bO (.cells c e f))(ho:a.off<c.size)(es:Array Event):
  (convert 221 327<|.pointer<|bO a).runT p u es=(.ok (.pointer<|bO a) u,es):=by
 obtain⟨j,b,d⟩:=zt.1 T.s2;have i:u.shape? a.block=bO (e,c.size):=by simp[World.shape?,g]
 have h:¬(c.size<=a.off):=by omega
 simp[convert,Conv.unsafePointer,Conv.seenAt,viewAt,cellsIn,underlying,sizeOf,typeInfo,program,shape,bind,Sem.bind,Sem.runT,pure,T.u1,T.u2,b,d,i,h,-Sem.runT_eq]
def CQ(a:Addr):Sem Zv:=do
 if(<-sizeOf 223)=0||(<-variablesAt a 223 1)then pure (.pointer<|bO a)
 else
  match<-shape a.block with
  |some (e,_)=>
   if(<-program).holdsStoodIn (<-program).depth e then unsupported (.unsafePointer "memory that holds a struct of a package that the model stands in for, seen as another type")
  |none=>unsupported<|.unsafePointer "memory that has no shape (a package-level variable that still waits for its initialiser), seen as another type"
  pure (zo<|<-newObj (.view a 223))
def xtt(T:Tb p){u:Zy}{c:Za}{e:Zt}{f:Nat×Nat}(b:u.heap[a.block]?=bO (.cells c e f))(es:Array Event):
  (convert 327 221<|.pointer<|bO a).runT p u es=(CQ a).runT p u es:=by
 have d:u.shape? a.block=bO (e,c.size):=by simp[World.shape?,b]
 simp[convert,CQ,Conv.unsafePointer,Conv.seenAt,viewAt,underlying,program,shape,bind,Sem.bind,Sem.runT,pure,T.u1,T.u2,d,-Sem.runT_eq];rfl
end
section
variable {P:aV} {F:Array Func} {X:Nat->Prop}
def xp6(hx:¬X a.block):B P F X<|CQ a:=by
 unfold CQ;refine xp (dP.1 _) fun n=>xp ?_ fun b=>?_;unfold variablesAt;refine Xc (by simp only[RZ,Y8,Y7])<|xp (RA hx) fun s=>?_;split<;>exact xr _
 split;exact xr _;refine xp (RA hx) fun s=>?_;have d:B P F X (do pure (zo<|<-newObj (.view a 223)):Sem Zv):=xp (xH _ ⟨fun c e h=>(by cases h),fun f h=>(by cases h),fun l h=>(by cases h)⟩) fun _=>xr _;split;refine Xc (by simp only[cG])<|Xc (by simp only[Y8,cG]) ?_;split;exact EJ (Jk _ trivial) (fun p w a x h=>by cases h);exact d;exact EJ (Jk _ trivial) fun p w a x h=>by cases h
end
end Odd160
namespace Odd160
def zB:Zv->Bool
 | .pointer _=>bL
 |_=>bK
section
variable {p:aV}
def zrf{a v:Zv}{bs:Zl}(h:a.ofBytes bs=bO v):zB v=bK:=by
 unfold Value.ofBytes at h
 repeat' split at h
 all_goals first|(cases h;done)|(cases h;rfl)
def zqt{a k:Addr}{u:Zt}{b:Bool}{v:Zv}{l:List Addr}(h:w.viewLoad p a u k b= .ok (v,l)):zB v=bK:=by
 unfold World.viewLoad at h;cases hs:w.seen p a u k b with
 |error e=>rw[hs]at h;cases h
 |ok q=>
  obtain⟨f,g,i,first,d,c⟩:=q;rw[hs]at h;simp only[bind,Except.bind]at h;split at h
  rename_i v' hv
  cases h;exact zrf hv;cases h
def Cd{w x:Zy}{v:Zv}(h:(Go.load a).run p w= .ok v x):x=w/\(zB v=bL->∃c e f,w.heap[a.block]?=bO (.cells c e f)/\a.off<c.size):=by
 rw[TD]at h;cases hc:w.cell? a with
 |some y=>
  rw[hc]at h;cases h;refine⟨rfl,fun _=>?_⟩;unfold World.cell? at hc;split at hc
  rename_i c e f he
  split at hc;cases hc;exact⟨c,e,f,he,(za.1 hc).1⟩;cases hc
 |none=>
  rw[hc]at h;dsimp only at h;split at h
  rename_i y l hf
  cases h;refine⟨rfl,fun b=>?_⟩;unfold World.farLoad at hf;split at hf;split at hf
  rename_i r hr
  cases hf;rw[zqt hr]at b;cases b;cases hf;cases hf;cases h
def sC(T:Tb p){w x:Zy}{v y:Zv}(h:(Instr.loadAt 221 y).run p w= .ok v x):x=w/\∃a,y= .pointer (bO a)/\(zB v=bL->∃c e f,w.heap[a.block]?=bO (.cells c e f)/\a.off<c.size):=by
 unfold Instr.loadAt at h;obtain⟨a,g,d,i⟩:=jm h;have m:y= .pointer (bO a)/\g=w:=by
  unfold Instr.sureAddr at d;split at d;cases d;exact⟨rfl,rfl⟩;cases d
 obtain⟨rfl,rfl⟩:=m;unfold loadVar at i;obtain⟨b,o,j,k⟩:=jm i;have n:b=bK/\o=g:=by
  have:(isAgg 221).run p g= .ok bK g:=by simp[isAgg,underlying,T.u1]
  rw[this]at j;cases j;exact⟨rfl,rfl⟩
 obtain⟨rfl,rfl⟩:=n;simp only[xu,if_false]at k;obtain⟨rfl,l⟩:=Cd k;exact⟨rfl,a,rfl,l⟩
def zua(T:Tb p){w x:Zy}{v y:Zv}(h:(Instr.fieldAt 223 y 0).run p w= .ok v x):x=w/\∃a,y= .pointer (bO a)/\v= .pointer (bO a):=by
 obtain⟨r,l,m⟩:=zt.1 T.s1;have q:(underlying 223).run p w= .ok (.struct MH) w:=by simp[underlying,T.u3]
 unfold Instr.fieldAt at h;obtain⟨d,s,g,c⟩:=jm h;rw[q]at g;cases g;dsimp only at c;rw[eK]at c;dsimp only at c;obtain⟨a,f,e,j⟩:=jm c;have n:y= .pointer (bO a)/\f=w:=by
  unfold Instr.sureAddr at e;split at e;cases e;exact⟨rfl,rfl⟩;cases e
 obtain⟨rfl,rfl⟩:=n;have o:(fieldPlace a NT).run p f= .ok a f:=by simp[fieldPlace,xmq,xq1,sizeOf,typeInfo,l,m,Addr.add]
 obtain⟨b,t,i,k⟩:=jm j;rw[o]at i;cases i;cases k;exact⟨rfl,a,rfl,rfl⟩
def xmk(T:Tb p){w x:Zy}{v y:Zv}{o m:Operand}(h:(do eqGuard .eql 221 o m y (.pointer bN);binOp .eql 221 y (.pointer bN):Sem Zv).run p w= .ok v x):x=w/\zB y=bL:=by
 have k:(underlying 221).run p w= .ok (.pointer 223) w:=by simp[underlying,T.u1]
 have c:∀{y:Zv} {v x},(Op.equal 221 y<|.pointer bN).run p w= .ok v x->x=w/\zB y=bL:=fun {y v x} h=>by
  unfold Op.equal at h;rw[show Op.maxDepth=9999+1 from rfl,Op.equalIn]at h;obtain⟨d,e,b,a⟩:=jm h;rw[k]at b;cases b;cases y with
  |pointer q=>
   cases q with
   |none=>cases a;exact⟨rfl,rfl⟩
   |some q=>cases a;exact⟨rfl,rfl⟩
  |_=>cases a
 obtain⟨g,e,b,a⟩:=jm h;have l:e=w:=by
  cases y<;>(simp[eqGuard]at b;exact b.symm)
 subst l;have j:(binOp .eql 221 y<|.pointer bN)=(do pure (.bool<|<-Op.equal 221 y (.pointer bN)):Sem Zv):=by
  cases y<;>rfl
 rw[j]at a;obtain⟨q,n,f,i⟩:=jm a;cases i;exact c f
end
def call275(x:Zv)(w:Zy):(callFunc 275 #[x]).run (wf bM funcs) w= .ok (.value x) w:=by
 have h:(wf bM funcs).funcs[275]?=bO Tryz.f275:=MK (by decide) Tryz.func275;have c:(Tryz.f275.name== "runtime.NumGoroutine")=bK:=KR Tryz.func275;have a:¬Tryz.f275.name= "runtime.NumGoroutine":=by simpa using c
 have b:Tryz.f275.body=bN:=by kernel_rfl
 have d:Extern.AbiNoEscape.same #[x]=pure x:=rfl;simp[callFunc,h,a,b,Gt,Io,d]
end Odd160
namespace Odd160
structure Bs(fr:Zf):Prop where
 fn:fr.fn=220
 ke:fr.kind≠ .early/\fr.kind≠ .report
 de:fr.defers=[]
 ro:fr.roundOf=bN
 sz:20<=fr.tmps.size
def Own(X:ZP)(fr:Zf)(w:Zy):Prop:=∃a c e f,fr.tmps.getD 0 bJ= .pointer (bO a)/\w.heap[a.block]?=bO (.cells c e f)/\a.off<c.size/\¬X a.block
def At(X:ZP)(fr:Zf)(w:Zy):Nat->Prop
 |0=>fr.todo=[.code<|.seq xW cC]
 |1=>fr.todo=[.code xW,.code cC]
 |2=>fr.todo=[.inRegion lM [0,1,2,3,4],.code cC]
 |3=>fr.todo=[.inRegion lM [1,2,3,4],.code cC]/\fr.tmps.getD 2 bJ=fr.tmps.getD 0 bJ
 |4=>fr.todo=[.inRegion lM [2,3,4],.code cC]/\fr.tmps.getD 3 bJ=fr.tmps.getD 0 bJ
 |5=>fr.todo=[.inRegion lM [3,4],.code cC]/\∃a,fr.tmps.getD 0 bJ= .pointer (bO a)/\fr.tmps.getD 4 bJ= .pointer (bO a)
 |6=>fr.todo=[.inRegion lM [4],.code cC]/\(zB (fr.tmps.getD 5 bJ)=bL->Own X fr w)
 |7=>fr.todo=[.inRegion lM [],.code cC]/\Own X fr w
 |8=>fr.todo=[.code cC]/\Own X fr w
 |9=>fr.todo=[.code<|.region 1 Va bK]/\Own X fr w
 |10=>fr.todo=[.inRegion Va [0,1,2,3,4,5,6,7]]/\Own X fr w
 |11=>fr.todo=[.inRegion Va [1,2,3,4,5,6,7]]/\Own X fr w
 |12=>fr.todo=[.inRegion Va [2,3,4,5,6,7]]/\Own X fr w/\fr.tmps.getD 8 bJ=fr.tmps.getD 0 bJ
 |13=>fr.todo=[.inRegion Va [3,4,5,6,7]]/\Own X fr w/\fr.tmps.getD 9 bJ=fr.tmps.getD 0 bJ
 |14=>fr.todo=[.inRegion Va [4,5,6,7]]/\Own X fr w/\fr.tmps.getD 10 bJ=fr.tmps.getD 0 bJ
 |15=>fr.todo=[.inRegion Va [5,6,7]]
 |16=>fr.todo=[.inRegion Va [6,7]]
 |17=>fr.todo=[.inRegion Va [7]]
 |18=>fr.todo=[.inRegion Va []]
 |_=>False
def I(X:ZP)(fr:Zf)(w:Zy):Prop:=Bs fr/\((∃ch ops r k,fr.mode= .panicking ch/\fr.todo= .inRegion ops r::k)\/(fr.mode= .run/\∃n,At X fr w n))
def At.re{X:ZP}{fr:Zf}{n:Nat}(t:Nat->Question->Nat)(d:Nat)(h:At X fr w n):At X fr (re w t d) n:=by
 match n,h with
 |0,h|1,h|2,h|3,h|4,h|5,h|6,h|7,h|8,h|9,h|10,h|11,h|12,h|13,h|14,h|15,h|16,h|17,h|18,h=>exact h
 |_+19,h=>exact h.elim
def CG{b:Za}{d j:Nat}{a:Zv}(h:d≠j):(b.setIfInBounds d a).getD j bJ=b.getD j bJ:=by
 simp[Zj,h]
def CF{b:Za}{a:Zv}(h:d<b.size):(b.setIfInBounds d a).getD d bJ=a:=by
 simp[Zj,h]
section
variable {X:Nat->Prop} {fr:Frame} {w:World}
def Bs.put(h:Bs fr)(d:Nat)(a:Zv)(k:List Item):Bs {fr with tmps:=fr.tmps.setIfInBounds d a,todo:=k}:=⟨h.fn,h.ke,h.de,h.ro,by simpa using h.sz⟩
def Bs.to(h:Bs fr)(k:List Item):Bs {fr with todo:=k}:=⟨h.fn,h.ke,h.de,h.ro,h.sz⟩
def Own.put(h:Own X fr w)(hd:d≠0)(a:Zv)(k:List Item):Own X {fr with tmps:=fr.tmps.setIfInBounds d a,todo:=k} w:=by
 obtain⟨q,c,e,f,b,g⟩:=h;exact⟨q,c,e,f,by rw[<-b];exact CG hd,g⟩
def fin{op:Op}(b:fr.todo= .inRegion ops (i::rest)::k)(ho:ops[i]?=bO o)(hd:o.dst=bO d)(a:Zv):fr.finish a={fr with tmps:=fr.tmps.setIfInBounds d a,todo:= .inRegion ops rest::k}:=by
 simp[Frame.finish,b,ho,hd]
def xw7{op:Op}(b:fr.todo= .inRegion ops (i::rest)::k)(ho:ops[i]?=bO o)(hd:o.dst=bN)(a:Zv):fr.finish a={fr with todo:= .inRegion ops rest::k}:=by
 simp[Frame.finish,b,ho,hd]
def I.raise{r:List Nat}(h:Bs fr)(a:fr.todo= .inRegion ops r::k)(b:List PanicEntry)(x:Zy):I X (fr.raise b) x:=by
 unfold Frame.raise;split;exact⟨⟨h.fn,h.ke,h.de,h.ro,h.sz⟩,.inl ⟨_,_,_,_,rfl,a⟩⟩;exact⟨⟨h.fn,h.ke,h.de,h.ro,h.sz⟩,.inl ⟨_,_,_,_,rfl,a⟩⟩
def wanted{y:Nat->Option Bool}(h:o.guard=bN):Region.wanted o y=bL:=by
 simp[Region.wanted,h]
def vI(H:Fit bM funcs X)(q:Sm bM X w w)(b:Bs fr)(r:fr.mode= .run)(f:fr.todo= .inRegion ops (i::rest)::k){op:Op}(hop:qK ops i op<|bO d)(c:qM bM op=bL)
  (s:∀o n x,o.op=op->(bG fr.eval o).run (wf bM funcs) w= .ok n x->∃a,n= .value a/\I X {fr with tmps:=fr.tmps.setIfInBounds d a,todo:= .inRegion ops rest::k} x):zA bM funcs X (I X) fr w:=by
 obtain⟨o,g,h,m,p⟩:=hop;refine cD H q f r g (wanted p) b.ro b.ke.1 (by rw[h];exact c) (fun n x e=>?_) fun y x _=>I.raise b f _ _;obtain⟨a,j,l⟩:=s o n x h e;exact⟨a,.inl j,.inl<|by rw[fin (op:=op) f g m];exact l⟩
def KG{s:Sem Zv}{p:Zp}{x:Zy}{n:Next}(h:(do pure (.value<|<-s):Sem Next).run p w= .ok n x):∃a,n= .value a/\s.run p w= .ok a x:=by
 obtain⟨a,d,b,c⟩:=jm h;cases c;exact⟨a,rfl,b⟩
def M_{ρ:Operand->Zv}{y:Operand}{p:Zp}{x:Zy}{n:Next}(ho:o.op= .move y)(h:(bG ρ o).run p w= .ok n x):n= .value (ρ y)/\x=w:=by
 unfold bG at h;rw[ho]at h;cases h;exact⟨rfl,rfl⟩
def Nl{ρ:Operand->Zv}{y:Operand}{p:Zp}{x:Zy}{n:Next}(ho:o.op= .nilCheck y)(h:(bG ρ o).run p w= .ok n x):n= .value (ρ y):=by
 unfold bG at h;rw[ho]at h;dsimp only at h;split at h;exact absurd h<|Yr _ _ _ _ _;exact absurd h<|Yr _ _ _ _ _;exact absurd h<|Yr _ _ _ _ _
 rename_i name first captured hy
 rw[hy];split at h;exact absurd h<|Yr _ _ _ _ _;obtain⟨p,g,d,b⟩:=jm h;obtain⟨y,i,e,a⟩:=jm b;split at a;obtain⟨z,j,c,f⟩:=jm a;cases c;cases a;rfl;cases h;rfl;cases h;rfl
end
end Odd160
namespace Odd160
section
variable {X:Nat->Prop} {fr:Frame} {w:World}
def UO(fr:Zf)(j:Nat):fr.eval (.tmp j)=fr.tmps.getD j bJ:=rfl
def LQ(a:Bs fr)(b:fr.mode= .run)(h:∀p cs u,aZ p bL (Z0 fr cs) u= .go (Z0 {fr with todo:=k} cs) u #[]){n:Nat}(c:At X {fr with todo:=k} w n):zA bM funcs X (I X) fr w:=
 C9 h rfl (.inl ⟨a.to k,.inr ⟨b,n,c⟩⟩)
def xrv:Tryz.prog.inits.idxOf? 220=bN:=by
 rw[Tryz.inits_eq];simp
def Tu(a:Bs fr)(hk:∀it∈k,Y3 bM bL it):Xv bM {fr with todo:=k}:=
 ⟨fun it b=>by simp only[a.ro,Option.isNone_none];exact hk it b,fun d hd=>(by simp only[a.de]at hd;cases hd),a.ke,(by rw[show({fr with todo:=k}:Zf).fn=220 from a.fn];exact xrv)⟩
def live{c:Za}{e:Zt}{f:Nat×Nat}(i:Sm bM X w w)(d:w.heap[a.block]?=bO (.cells c e f))(g:a.off<c.size):¬X a.block:=fun j=>by
 obtain⟨o,m,b,_,⟨h,_⟩|⟨k,l,h,_⟩⟩:=i.dead _ j;rw[d]at b;cases b;cases h;rw[d]at b;cases b;cases h;simp at g
def xmm(ho:o.op= .call {callee:= .value (.func 275),args:=#[.tmp 9],argTypes:=#[327]}):bG fr.eval o=callFunc 275 #[fr.eval<|.tmp 9]:=by
 have a:resolve fr.eval {callee:= .value (.func 275),args:=#[.tmp 9],argTypes:=#[327]} o.type=pure {target:= .fn (.func 275) #[],args:=#[fr.eval<|.tmp 9]}:=by
  simp[resolve,Deferred.ofValue,Frame.eval]
 unfold bG;rw[ho];dsimp only;rw[a];show invoke (.fn (.func 275) #[]) #[fr.eval<|.tmp 9]=_;simp[invoke]
def wL(H:Fit bM funcs X)(l:Sm bM X w w)(g:Bs fr)(i:fr.mode= .run){n:Nat}(h:At X fr w n):zA bM funcs X (I X) fr w:=by
 have sz:=g.sz
 match n,h with
 |0,h=>exact LQ g i (k:=[.code xW,.code cC]) (fun p m u=>by simp[aZ,Z0,i,bI,show fr.todo=[.code<|.seq xW cC]from h]) (n:=1) rfl
 |1,h=>
  exact LQ g i (k:=[.inRegion lM [0,1,2,3,4],.code cC]) (fun p m u=>by
   simp[aZ,Z0,i,bI,show fr.todo=[.code xW,.code cC]from h,xW,xvn];rfl) (n:=2) rfl
 |2,h=>
  refine vI H l g i h hH rfl fun o n x j e=>?_;obtain⟨rfl,rfl⟩:=M_ j e;exact⟨_,rfl,g.put _ _ _,.inr ⟨i,3,rfl,by
   show(fr.tmps.setIfInBounds 2 _).getD 2 bJ=(fr.tmps.setIfInBounds 2 _).getD 0 bJ;rw[CF<|by omega,CG<|by omega];rfl⟩⟩
 |3,⟨h,h2⟩=>
  refine vI H l g i h hO rfl fun o n x j e=>?_;obtain rfl:=Nl j e;exact⟨_,rfl,g.put _ _ _,.inr ⟨i,4,rfl,by
   show(fr.tmps.setIfInBounds 3 _).getD 3 bJ=(fr.tmps.setIfInBounds 3 _).getD 0 bJ;rw[CF<|by omega,CG<|by omega];exact h2⟩⟩
 |4,⟨h,h2⟩=>
  refine vI H l g i h hU rfl fun o n x j e=>?_;unfold bG at e;rw[j]at e;obtain⟨a,rfl,B⟩:=KG e;obtain⟨rfl,b,C,rfl⟩:=zua GJ B;exact⟨_,rfl,g.put _ _ _,.inr ⟨i,5,rfl,b,by
   show(fr.tmps.setIfInBounds 4 _).getD 0 bJ=_;rw[CG<|by omega,<-h2];exact C,by
   show(fr.tmps.setIfInBounds 4 _).getD 4 bJ=_;rw[CF<|by omega]⟩⟩
 |5,⟨h,a0,h2,h3⟩=>
  refine vI H l g i h hY rfl fun o n x j e=>?_;unfold bG at e;rw[j]at e;obtain⟨a,rfl,B⟩:=KG e;obtain⟨rfl,b,C,U⟩:=sC GJ B;rw[UO,h3]at C;cases C;exact⟨_,rfl,g.put _ _ _,.inr ⟨i,6,rfl,fun V=>by
   have E:zB ((fr.tmps.setIfInBounds 5 a).getD 5 bJ)=bL:=V;rw[CF<|by omega]at E;obtain⟨c,D,f,r,z⟩:=U E;exact Own.put ⟨a0,c,D,f,h2,r,z,live l r z⟩ (by omega) _ _⟩⟩
 |6,⟨h,h2⟩=>
  refine vI H l g i h hZ rfl fun o n x j e=>?_;unfold bG at e;rw[j]at e;obtain⟨a,rfl,B⟩:=KG e;obtain⟨rfl,C⟩:=xmk GJ B;exact⟨_,rfl,g.put _ _ _,.inr ⟨i,7,rfl,(h2 C).put (by omega) _ _⟩⟩
 |7,⟨h,h2⟩=>exact LQ g i (k:=[.code cC]) (fun p m u=>by simp[aZ,Z0,i,bI,show fr.todo=[.inRegion lM [],.code cC]from h]) (n:=8) ⟨rfl,h2⟩
 |8,⟨h,h2⟩=>
  have K:∀p m u,aZ p bL (Z0 fr m) u=(match fr.eval (.tmp 6)with
    | .bool b=> .go (Z0 {fr with todo:=[.code (if b then .region 1 Va bK else WR)]} m) u #[]
    |_=> .ended (.stuck "cond: bool expected" (fr.pos p)) u):=fun p m u=>by
   simp only[aZ,Z0,i,bI,show fr.todo=[.code cC]from h,cC];rfl
  by_cases M:∃b,fr.eval (.tmp 6)= .bool b;obtain⟨b,M⟩:=M;rw[M]at K;cases b with
  |true=>exact LQ g i (fun p m u=>K p m u) (n:=9) ⟨rfl,h2⟩
  |false=>exact C9 (fun p m u=>K p m u) rfl (.inr (Tu g fun W L=>by
    simp only[jp]at L;subst L;exact xuc))
  refine .inl fun m=>⟨.stuck "cond: bool expected" (fr.pos<|wf bM funcs),w,#[],?_⟩;rw[K];split
  rename_i b hb'
  exact absurd ⟨b,hb'⟩ M;rfl
 |9,⟨h,h2⟩=>
  exact LQ g i (k:=[.inRegion Va [0,1,2,3,4,5,6,7]]) (fun p m u=>by
   simp[aZ,Z0,i,bI,show fr.todo=[.code<|.region 1 Va bK]from h,xvo];rfl) (n:=10) ⟨rfl,h2⟩
 |10,⟨h,h2⟩=>
  refine vI H l g i h iS rfl fun o n x j e=>?_;obtain⟨rfl,rfl⟩:=M_ j e;exact⟨_,rfl,g.put _ _ _,.inr ⟨i,11,rfl,h2.put (by omega) _ _⟩⟩
 |11,⟨h,h2⟩=>
  refine vI H l g i h kA rfl fun o n x j e=>?_;obtain⟨rfl,rfl⟩:=M_ j e;exact⟨_,rfl,g.put _ _ _,.inr ⟨i,12,rfl,h2.put (by omega) _ _,by
   show(fr.tmps.setIfInBounds 8 _).getD 8 bJ=(fr.tmps.setIfInBounds 8 _).getD 0 bJ;rw[CF<|by omega,CG<|by omega];rfl⟩⟩
 |12,⟨h,h2,h3⟩=>
  obtain⟨o,r,z,F,G⟩:=kB;obtain⟨a,c,D,f,N,J,S,O⟩:=id h2;have q:∀{p:Zp} {u:Zy},Tb p->u.heap[a.block]?=bO (.cells c D f)->(bG fr.eval o).runT p u #[]=(pure (.value<|.pointer<|bO a):Sem Next).runT p u #[]:=fun {p u} T Q=>by
   unfold bG;rw[z];dsimp only;rw[UO,h3,N];show((convert 221 327<|.pointer<|bO a).bind _).runT p u #[]=_;rw[Jb,xts T Q S]
  refine C8 l h i r (wanted G) g.ro g.ke.1 (s:=pure<|.value<|.pointer<|bO a) (Bl.next<|xr _) (fun t d=>q GJ J) (fun v R=>q Ao<|by rw[R.out _ O];exact J) (fun n x e=>?_) (fun y x e=>by cases e);cases e;refine⟨_,.inl rfl,.inl ?_⟩;rw[fin (op:= .move (.tmp 0)) h r F];exact⟨g.put _ _ _,.inr ⟨i,13,rfl,h2.put (by omega) _ _,by
   show(fr.tmps.setIfInBounds 9 _).getD 9 bJ=(fr.tmps.setIfInBounds 9 _).getD 0 bJ;rw[CF<|by omega,CG<|by omega];exact N.symm⟩⟩
 |13,⟨h,h2,h3⟩=>
  refine vI H l g i h kO rfl fun o n x j e=>?_;rw[xmm j,call275]at e;cases e;exact⟨_,rfl,g.put _ _ _,.inr ⟨i,14,rfl,h2.put (by omega) _ _,by
   show(fr.tmps.setIfInBounds 10 _).getD 10 bJ=(fr.tmps.setIfInBounds 10 _).getD 0 bJ;rw[CF<|by omega,CG<|by omega];exact h3⟩⟩
 |14,⟨h,h2,h3⟩=>
  obtain⟨o,r,z,F,G⟩:=lA;obtain⟨a,c,D,f,N,J,S,O⟩:=id h2;have q:∀{p:Zp} {u:Zy},Tb p->u.heap[a.block]?=bO (.cells c D f)->(bG fr.eval o).runT p u #[]=(do pure (.value<|<-CQ a):Sem Next).runT p u #[]:=fun {p u} T Q=>by
   unfold bG;rw[z];dsimp only;rw[UO,h3,N];show((convert 327 221<|.pointer<|bO a).bind _).runT p u #[]=((CQ a).bind _).runT p u #[];rw[Jb,Jb,xtt T Q]
  refine C8 l h i r (wanted G) g.ro g.ke.1 (s:=do pure (.value<|<-CQ a)) (Bl.next<|xp (xp6 O) fun _=>xr _) (fun t d=>q GJ J) (fun v R=>q Ao<|by rw[R.out _ O];exact J) (fun n x e=>?_) fun y x e=>I.raise g h _ _;obtain⟨b,rfl,_⟩:=KG e;refine⟨_,.inl rfl,.inl ?_⟩;rw[fin (op:= .move (.tmp 0)) h r F];exact⟨g.put _ _ _,.inr ⟨i,15,rfl⟩⟩
 |15,h=>
  refine vI H l g i h lB rfl fun o n x j e=>?_;obtain rfl:=Nl j e;exact⟨_,rfl,g.put _ _ _,.inr ⟨i,16,rfl⟩⟩
 |16,h=>
  refine vI H l g i h o16 rfl fun o n x j e=>?_;unfold bG at e;rw[j]at e;obtain⟨a,rfl,B⟩:=KG e;exact⟨_,rfl,g.put _ _ _,.inr ⟨i,17,rfl⟩⟩
 |17,h=>
  obtain⟨o,r,z,F,G⟩:=lE;refine cD H l h i r (wanted G) g.ro g.ke.1 (by rw[z];rfl) (fun n x e=>?_) fun y x _=>I.raise g h _ _;unfold bG at e;rw[z]at e;obtain⟨u,Z,Y,B⟩:=jm e;cases B;refine⟨_,.inr ⟨rfl,rfl⟩,.inl ?_⟩;rw[xw7 (op:= .move (.tmp 0)) h r F];exact⟨g.to _,.inr ⟨i,18,rfl⟩⟩
 |18,h=>
  refine C9 (fr':={fr with todo:=[]}) (fun p m u=>?_) rfl<|.inr<|Tu g fun W L=>(by cases L);simp[aZ,Z0,i,bI,show fr.todo=[.inRegion Va []]from h]
 |_+19,h=>exact h.elim
end
end Odd160
def xxh(i:Nat):(funcs[i]?).map (·.results)=(Tryz.prog.funcs[i]?).map (·.results):=by
 rw[vP];cases h:Tryz.prog.funcs[i]?with
 |none=>rfl
 |some f=>simp only[js,vB];split<;>rfl
def WU(i:Nat):funcs[i]?=Tryz.prog.funcs[i]?\/Ref funcs i:=by
 cases h:Tryz.prog.funcs[i]?with
 |none=>left;rw[vP,h];rfl
 |some f=>
  cases hb:kJ i with
  |true=>exact .inr<|Au hb h<|KR h
  |false=>left;rw[vP,h];simp only[js,vB,hb,xu,if_false]
def WB(i:Nat)(fn:Func)(h:funcs[i]?=bO fn):(fn.name== "runtime.NumGoroutine")=bK:=by
 obtain⟨f,a,⟨_,rfl⟩|⟨_,rfl⟩⟩:=Ck h;have:=KR a;unfold vC;exact this;exact KR a
def yG(P:Zp)(F:Zc):(wf P F).funcs=F:=rfl
def WE(i:Nat)(fn:Func)(h:funcs[i]?=bO fn)(a:fn.body.isNone=bL):Extern.findNext fn=bN:=by
 rcases Em h a with⟨_,rfl⟩|⟨_,rfl⟩|⟨_,rfl⟩|⟨_,rfl⟩|⟨_,rfl⟩;exact n71;exact xxb;exact Gt;exact xxc;exact xxd
def xp8{P:Zp}{F:Zc}{X:ZP}(a:Za):B P F X<|Extern.AbiNoEscape.same a:=match a with
 |⟨[]⟩=>(ja _:B P F X<|stuck _)
 |⟨[x]⟩=>(xr x:B P F X<|pure x)
 |⟨_::_::_⟩=>(ja _:B P F X<|stuck _)
def WT{P:Zp}{F:Zc}{X:ZP}(i:Nat)(fn:Func)(h:funcs[i]?=bO fn)(c:fn.body.isNone=bL)(e:Za->Sem Zv)(b:Extern.find fn=bO e)(a:Za):B P F X<|e a:=by
 rcases Em h c with⟨_,rfl⟩|⟨_,rfl⟩|⟨_,rfl⟩|⟨_,rfl⟩|⟨_,rfl⟩;rw[pC]at b;cases b;exact Tr a;rw[xxo]at b;cases b;exact B6 a;rw[Io]at b;cases b;exact xp8 a;rw[xxp]at b;cases b;exact ztt _ _ a;rw[xxq]at b;cases b;exact ztp a
def xr4:Tryz.prog.inits=#[2]:=Tryz.inits_eq
def xny{f:Func}(h:kJ i=bL)(a:Tryz.prog.funcs[i]?=bO f):Ref funcs i:=Au h a<|KR a
def Fx(h:i≠2):Tryz.prog.inits.idxOf? i=bN:=by
 rw[xr4];simp[h.symm]
def Fw(a:¬Ref funcs f){x:Func}(hx:Tryz.prog.funcs[f]?=bO x):kJ f=bK:=by
 cases h:kJ f with
 |false=>rfl
 |true=>exact absurd (xny h hx) a
def EQ(b:¬Ref funcs f):Tryz.prog.inits.idxOf? f=bN/\(f≠220->∀fn c,funcs[f]?=bO fn->fn.body=bO c->qn bM bL c=bL):=by
 refine⟨Fx ?_,fun e fn c a d=>?_⟩;rintro rfl;have:=Fw b Tryz.func2;revert this;decide;rw[(WU f).resolve_right b]at a;exact Ay a (Fw b a) e d
def Hl(X:ZP):Fit bM funcs X:=⟨fun f=>(WU f).imp id .inl,xxh,WB,WE,fun f b h c e d a=>WT f b h c e d a⟩
def xuv(X:ZP):Fit (wf bM funcs) funcs X:=⟨fun f=> .inl (by rw[yG]),fun f=>(by rw[yG]),WB,WE,fun f b h c e d a=>WT f b h c e d a⟩
def xr2:pE bM funcs:=fun f a=>⟨(EQ a.2).1,by
 by_cases h:f=220;subst h;exact .inl Odd160.uI;exact .inr<|(EQ a.2).2 h⟩
def UU(i:Nat)(f:Func):Func:=if i=220 then vC f else vB i f
noncomputable def Tryo.funcs:Zc:=Tryz.prog.funcs.mapIdx UU
def He(i:Nat):Tryo.funcs[i]?=(Tryz.prog.funcs[i]?).map (UU i):=by
 unfold Tryo.funcs;simp
def OC(h:i≠220):Tryo.funcs[i]?=funcs[i]?:=by
 rw[He,vP];cases Tryz.prog.funcs[i]?with
 |none=>rfl
 |some f=>simp only[js,UU,h,if_false]
def OU:Tryo.funcs[220]?=bO (vC Tryz.f220):=by
 rw[He,Tryz.func220];rfl
def OZ:funcs[220]?=bO Tryz.f220:=by
 rw[vP,Tryz.func220];rfl
def Fk(f:Func):(vC f).name=f.name:=rfl
def xn1(f:Func):(vC f).results=f.results:=rfl
def F3(f:Func):(vC f).body=bO (.refuse ""):=rfl
def xxf(X:ZP):Fit (wf bM Tryo.funcs) funcs X where
 each f:=by
  rw[yG];by_cases h:f=220;subst h;exact .inr<|.inr ⟨_,_,OU,OZ,Fk _,by rw[F3];rfl,by rw[Odd160.body160];rfl⟩;exact .inl (OC h).symm
 res f:=by
  rw[yG];by_cases h:f=220;subst h;rw[OU,OZ];simp only[js,xn1];rw[OC h]
 name:=WB
 next:=WE
 ext f fn h hb e he a:=WT f fn h hb e he a
def xrz(b:Ys (wf bM Tryo.funcs) funcs f):f≠220:=by
 rintro rfl;have h:=b.1;rw[yG,OZ,OU,zp]at h;have a:=congrArg Func.body h;rw[F3,Odd160.body160]at a;cases a
def xrt:pE (wf bM Tryo.funcs) funcs:=fun f a=>⟨(EQ a.2).1,.inr fun b c d e=>by
 rw[Xm];exact(EQ a.2).2 (xrz a) b c d e⟩
def xud(f:FuncId):¬Mc (wf bM Tryo.funcs) f:=by
 rintro⟨j,c,a,d,b⟩;rw[yG]at a;rw[Xm]at b;by_cases h:f=220;subst h;rw[OU]at a;cases a;rw[F3]at d;cases d;cases b;rw[OC h]at a;by_cases i:Ref funcs f;obtain⟨k,s,e,g,_⟩:=i;rw[a]at e;cases e;rw[d]at g;cases g;cases b;rw[(EQ i).2 h j c a d]at b;cases b
def xnd(d:Ys bM funcs f)(i:Mc bM f):f=220:=by
 by_cases h:f=220;exact h;obtain⟨e,c,a,g,b⟩:=i;rw[<-d.1]at a;rw[(EQ d.2).2 h e c a g]at b;cases b
def xxg:zL bM funcs Odd160.I Tryo.funcs where
 enter X f a k w hp hM hk:=by
  obtain rfl:=xnd hp hM;have e:(wf bM funcs).funcs[220]?=bO Tryz.f220:=by rw[yG];exact OZ
  refine⟨⟨rfl,hk,rfl,rfl,?_⟩,.inr ⟨rfl,0,?_⟩⟩;simp only[bF,e,js,jv,Odd160.ntmps220,Array.size_append,Array.size_replicate];omega;show(bF (wf bM funcs) 220 a k).todo=_;simp only[bF,e,Option.bind_some,Odd160.body160,jv]
 mc X fr w h:=by rw[h.1.fn];exact Odd160.uI
 re X fr w t d h:=⟨h.1,h.2.imp id fun⟨g,n,i⟩=>⟨g,n,Odd160.At.re t d i⟩⟩
 step X fr w hS h:=by
  obtain⟨c,⟨ch,m,r,k,b,l⟩|⟨b,n,j⟩⟩:=h;refine .inr<|.inl ⟨ch,b,c.de,fun p=>?_⟩;unfold Frame.catches;rw[l];cases p.funcs[fr.fn]?<;>rfl
  exact Odd160.wL (Hl X) hS c b j
 fit:=xxf
 codes:=xrt
 plain f hp hM:=⟨by
  rw[yG];by_cases h:f=220;subst h;exact absurd Odd160.uI hM;exact(OC h).symm,hp.2⟩
 zO:=xud
theorem bQ:J0 bM funcs where
 fit:=Hl
 vea:=xuv
 codes:=xr2
 two:=WU
 ro:=by kernel_rfl
 odd:=⟨_,_,xxg⟩
def kZ:gN bM<|U8 3:=xqw<|Fx<|by decide
def VW(f:Func):Bool:=match f.body with
 |some (.refuse _)=>bK
 |_=>bL
theorem bZ{f:Func}(h:kJ i=bK)(b:Tryz.prog.funcs[i]?=bO f)(hw:VW f=bL):Ys bM funcs i:=by
 refine⟨?_,?_⟩;rw[vP,b];simp only[js,vB,h,xu,if_false];rintro⟨d,s,a,c,_⟩;rw[vP,b]at a;simp only[js,vB,h,xu,if_false,zp]at a;subst a;unfold VW at hw;rw[c]at hw;cases hw
def xO{f:Func}(h:kJ i=bK)(g:i≠220)(d:Tryz.prog.funcs[i]?=bO f):¬Mc bM i:=by
 rintro⟨j,c,a,e,b⟩;rw[d]at a;cases a;rw[Ay d h g e]at b;cases b
def FZ:Op->Option Operand
 | .move x=>bO x
 | .assign x=>bO x
 |_=>bN
def mZ{rest:List aD}{a:Act}{val:Zv}(c:¬Mc bM fn)(b:o.guard=bN/\(FZ o.op).map a.eval=bO val)(h:Jc bM fn ops Q rest (a.put o.dst val) w):Jc bM fn ops Q (o::rest) a w:=by
 obtain⟨d,p,j,i,f,g⟩:=o;obtain⟨rfl,b⟩:=b;refine Jc.value bQ c rfl (fun t e=>⟨t,e,?_⟩) h;cases p<;>simp[FZ]at b<;>subst b<;>simp[bG,go_sem]
def gG{a:Act}{x y:Code}(b:¬Mc bM fn)(c:kT Q)(h:∀(w0:Zy) (Po:Exit->Act->Zy->Prop),kE w w0->RowKit.Hid (∀a' w',Xn bM fn y Q a' w'->Po .normal a' w')->RowKit.Hid (∀e a' w',e≠ .normal->Q e a' w'->Po e a' w')->x.wp prog Po a w0)(hy:hot [.code y]:=by exact trivial):Xn bM fn (.seq x y) Q a w:=Xn.go' bQ kZ b c hy h
def mY{a:Act}{x:Code}(b:¬Mc bM fn)(c:kT Q)(h:∀(w0:Zy) (Po:Exit->Act->Zy->Prop),kE w w0->RowKit.Hid (∀e a' w',Q e a' w'->Po e a' w')->x.wp prog Po a w0):Xn bM fn x Q a w:=Xn.last' bQ kZ b c h
end
end
end A
namespace P
open A.Tryq Go.RowKit
section
variable [pn:A.Pn]
section
variable {tv:Value} {b D M n cp clock:Nat} {k:Lk} {L:KV} {w:World} {es:Array aK} {rm nx:Value}
def rV(es:Array aK)(i:Nat):Zl:=(A.cB (i:Int) es.toList).data.toList
def xol(i:Nat):st (rV es i)=A.cB (i:Int) es.toList:=by simp[st,rV]
def Bg(es:Array aK):∀(k n r:Nat),r<k->(A.dY es (n:Int) k)[r]?=bO (A.pX ((n+r:Nat):Int)<|st<|rV es<|n+r)
 |0,n,r,h=>absurd h<|Wd _
 |k+1,n,0,h=>by simp[A.dY,xol]
 |k+1,n,r+1,h=>by
  have:=Bg es k (n+1) r (by omega);simp only[A.dY,Xb];rw[show((n:Int)+1)=((n+1:Nat):Int) by omega,this,show n+1+r=n+(r+1) by omega]
def inv(b D M n:Nat)(k:Lk)(L:KV)(es:Array aK)(w:Zy)(r:Nat)(w1:Zy):Prop:=
 ∃c k' L',(c=7\/c=8)/\dJ (rV es) n k L r=bO (k',L')/\xb (fun x=>x=b\/x=k.mp) (A.wF (py:=⟨137⟩) w D M c) w1/\Xa w1 b k'/\Xd w1 k.mp L'
def bad(tv:Zv)(b D M n cp:Nat)(k:Lk)(L:KV)(es:Array aK)(w:Zy)(ch:List PanicEntry)(w1:Zy):Prop:=
 ∃c,(c=7\/c=8)/\ch=[{v:=tv,recovered:=bK}]/\dJ (rV es) n k L cp=bN/\xb (fun x=>x=b\/x=k.mp) (A.wF (py:=⟨137⟩) w D M c) w1
def Tx{c:Nat}{w1:Zy}(f:w.heap[D]?=bO (.cells #[rm,.map<|bO M,nx] 137))(g:w.heap[M]?=bO (.map es clock))(h:xb (fun x=>x=b\/x=k.mp) (A.wF (py:=⟨137⟩) w D M c) w1):
  xb (fun x=>x=b\/x=k.mp) w (A.iI w1 D M (.cells #[rm,.map<|bO M,nx] 137)<|.map es clock):=by
 have i:D<w.heap.size:=(za.1 f).1;have j:M<w.heap.size:=(za.1 g).1;have e:=h.size;rw[A.fE (py:=⟨137⟩)]at e;refine⟨h.os,h.output,?_,fun x m l=>?_⟩;simp only[A.iI,Xf];omega;simp only[A.iI];by_cases d:x=M;subst d;rw[zx<|by simp;omega,g];rw[zd<|Ne.symm d];by_cases a:x=D;subst a;rw[zx<|by omega,f];rw[zd<|Ne.symm a,h.block x (by rw[A.fE (py:=⟨137⟩)];omega) l,A.iP (py:=⟨137⟩) w m a d]
def Ty{w1:Zy}{x:Nat}{c d:Obj}(a:x≠D)(b:x≠M):(A.iI w1 D M c d).heap[x]?=w1.heap[x]?:=by
 simp only[A.iI];rw[zd<|Ne.symm b,zd<|Ne.symm a]
def Ph{x:Int}(a:-9223372036854775808<=x)(b:x<9223372036854775808):IntKind.i64.wrap x=x:=by
 have:=a
 first
 |exact IntKind.wrap_of_inRange<|by simp[IntKind.inRange];omega
 |(rw[xn];omega)
 |(simp[IntKind.wrap];omega)
def tM(hk:k.ok)(H:Xa w b k)(hs:Xd w k.mp L)(hT:dF w)(hG:Wh tv w)
  (U:w.heap[D]?=bO (.cells #[rm,.map<|bO M,nx] 137))(W:w.heap[M]?=bO (.map es clock))(bg:∀e∈es.toList,A.eZ e)
  (Z:b≠1)(ba:b≠2)(hm1:k.mp≠1)(bl:k.mp≠2)(bk:b≠k.mp)(a:∀x,x=1\/x=2\/x=b\/x=k.mp->x≠D/\x≠M)
  (s:k.base+1=(n:Int))(bd:k.last+1=(n:Int)+cp)(bc:cp<=1000000000)(hn:n<=1000000000000)(B:∀i,(rV es i).length<=100000):
  A.CC bM 136 #[zo b,zo D] w (yL tv b k.mp (dJ (rV es) n k L cp) w):=by
 have bi:1<w.heap.size:=by obtain⟨t,x,_,h⟩:=hG;exact qz h
 have bj:=hT.pos;have bb:b<w.heap.size:=H.lt;have be:=hs.lt;have m:∀c x,(x=1\/x=2\/x=b\/x=k.mp)->x<w.heap.size->(A.wF (py:=⟨137⟩) w D M c).heap[x]?=w.heap[x]?:=fun c x hx hl=>A.iP (py:=⟨137⟩) w hl (a x hx).1 (a x hx).2;refine(A.oP (py:=⟨137⟩) (I:=inv b D M n k L es w) (J:=bad tv b D M n cp k L es w) (fun p=>A.bQ) A.kZ (A.bZ (by decide) Tryz.func214 rfl) ⟨H.cell 11 rfl,H.cell 12 rfl⟩ U W bg ?_ bc ?_ (by omega) (by omega) (by omega) ?_ ?_ ?_ ?_ ?_).mono ?_;rw[Ph (by omega)<|by omega];omega;rw[Ph (by omega)<|by omega];rintro r O t d ⟨c,K,G,j,f,g,q,y⟩;exact⟨c,K,G,j,f,g.re,q,y⟩;rintro ch O t d ⟨c,j,f,g,q⟩;exact⟨c,j,f,g,q.re⟩;rintro ch O ⟨c,j,rfl,_⟩;rfl;intro c j;refine⟨c,k,L,j,rfl,xb.refl _ _,?_,?_⟩;exact(m c b (by simp) bb).trans H;obtain⟨o,Q,f,g⟩:=hs;exact⟨o,Q,(m c k.mp (by simp) be).trans f,g⟩;intro r hr;rw[A.eX]at hr;refine⟨((n+r:Nat):Int),st _,by rw[s];exact Bg es cp n r hr,?_⟩;rintro w1 ⟨c,K,G,j,f,g,q,y⟩ t d;obtain⟨bh,F,_⟩:=ZK hk r f;have Y:xb (fun x=>x=b\/x=k.mp) w1<|A.re (w1.alloc<|A.oU ((n+r:Nat):Int)<|st<|rV es<|n+r) t d:=by
  have l:xb (fun x=>x=b\/x=k.mp) w1<|w1.alloc<|A.oU ((n+r:Nat):Int)<|st<|rV es<|n+r:=xb.alloc _;exact⟨l.os,l.output,l.size,l.block⟩
 have C:xb (fun _=>False) w1<|A.re (w1.alloc<|A.oU ((n+r:Nat):Int)<|st<|rV es<|n+r) t d:=by
  have l:xb (fun _=>False) w1<|w1.alloc<|A.oU ((n+r:Nat):Int)<|st<|rV es<|n+r:=xb.alloc _;exact⟨l.os,l.output,l.size,l.block⟩
 have z:=g.trans Y;have bf:=z.size;rw[A.fE (py:=⟨137⟩)]at bf;have X:dF<|A.wF (py:=⟨137⟩) w D M c:=fun i hi=>by
  have:=hT i hi;simp only[World.cell?]at this⊢;rw[m c 2 (by simp) bj];exact this
 have V:Wh tv<|A.wF (py:=⟨137⟩) w D M c:=by
  obtain⟨t',x,R,h⟩:=hG;refine⟨t',x,R,?_⟩;simp only[World.cell?]at h⊢;rw[m c 1 (by simp) bi];exact h
 have R:¬(1=b\/1=k.mp):=by omega
 have e4:¬(2=b\/2=k.mp):=by omega
 refine(znh b K bh G _ _ (B _) _ (by omega) (by omega) Z ba (by omega) (by omega) (by omega) (q.but C id) (by rw[F];exact y.but C id) (X.but z e4)<|V.but z R).mono ?_;intro e O E;rw[F,<-Rp f]at E;cases hq:dJ (rV es) n k L (r+1)with
 |none=>
  rw[hq]at E;obtain⟨rfl,v⟩:=E;refine⟨c,j,rfl,?_,z.trans v⟩;have:=Rq hq<|cp-(r+1);rwa[show r+1+(cp-(r+1))=cp by omega]at this
 |some p=>
  obtain⟨k2,L2⟩:=p;rw[hq]at E;obtain⟨rfl,v,S,T⟩:=E;exact⟨c,k2,L2,j,hq,z.trans v,S,T⟩
 rintro e O ⟨w1,rfl,⟨rfl,c,K,G,j,f,g,q,y⟩|⟨ch,rfl,c,j,rfl,f,g⟩⟩;refine zap f (Tx U W g) ?_ ?_;exact(Ty (a b<|by simp).1 (a b<|by simp).2).trans q;obtain⟨o,Q,S,T⟩:=y;exact⟨o,Q,(Ty (a k.mp<|by simp).1 (a k.mp<|by simp).2).trans S,T⟩;exact Xk f<|Tx U W g
end
def Rk:∀{es:List aK} {L:Ym},jB es L->∀e∈es,A.eZ e
 |[],_,_,e,he=>by cases he
 |e0::es,[],h,e,he=>by cases w_ h
 |e0::es,(k,v)::L,h,e,he=>by
  replace h:=EB h;rcases xf.1 he with rfl|a
  exact⟨k,v.2,st v.1,h.1,h.2.1.trans rfl⟩;exact Rk h.2.2 e a
def Nv(n:Int):∀{es:List aK} {L:Ym},jB es L->(A.cB n es).data.toList=qu L n
 |[],_::_,h=>(QR h).elim
 |e0::es,[],h=>by cases w_ h
 |[],[],_=>by simp[A.cB,A.fileAt,A.textOf,qu,J9]
 |e0::es,(k,v)::L,h=>by
  replace h:=EB h;have c:=Nv n h.2.2;have hk:e0.key=zi k:=h.1;have d:e0.val= .agg #[zs v.1,zi v.2]:=h.2.1.trans rfl;by_cases a:n=k;subst a;simp[A.cB,A.fileAt,A.textOf,hk,d,qu,J9,st];have b:¬k=n:=fun e=>a e.symm;simp only[A.cB,A.fileAt,hk,a,if_false]at c⊢;rw[c];simp[qu,J9,a,b]
def tI{tv:Zv}{b D n cp:Nat}{k:Lk}{L:KV}{d:Dk}{w:Zy}(hk:k.ok)(B:Xa w b k)(E:Xd w k.mp L)(z:dF w)(y:Wh tv w)(hd:Xg w D d)
  (j:b≠1)(l:b≠2)(hm1:k.mp≠1)(p:k.mp≠2)(m:b≠k.mp)(g:∀x,x=1\/x=2\/x=b\/x=k.mp->¬d.own D x)
  (a:k.base+1=(n:Int))(c:k.last+1=(n:Int)+cp)(o:cp<=1000000000)(C:n<=1000000000000)(f:∀i,(qu d.L i).length<=100000):
  A.CC bM 136 #[zo b,zo D] w (yL tv b k.mp (dJ (fun i=>qu d.L (i:Int)) n k L cp) w):=by
 obtain⟨t,h,v,q,_⟩:=hd.map;have r:rV t=fun i:Nat=>qu d.L (i:Int):=funext fun i=>Nv _ q;have:=tM hk B E z y (show w.heap[D]?=bO _ from hd.blk) v (Rk q) j l hm1 p m (fun x s=>⟨fun e=>g x s<|.inl e,fun e=>g x s<|.inr<|.inl e⟩) a c o C (fun i=>by rw[r];exact f _);rwa[r]at this
end
section
open A
variable [pn:A.Pn]
attribute [local go_sem] xe zv
section
variable {k:Lk} {w:Zy} {a:Act}
def tC(v0 v3 v4 v5:Zv)(a:Act):Prop:=∃x1 x2 x6 x7 x8 x9 x10 x11 x12 x13 x14 x15 x16 x17 x18 x19 x20 x21 x22 x23 x24 x25 x26 x27 x28 x29 x30 x31 x32 x33 x34 x35 x36 x37 x38 x39 x40 x41 x42 x43,a=⟨#[v0,x1,x2,v3,v4,v5,x6,x7,x8,x9,x10,x11,x12,x13,x14,x15,x16,x17,x18,x19,x20,x21,x22,x23,x24,x25,x26,x27,x28,x29,x30,x31,x32,x33,x34,x35,x36,x37,x38,x39,x40,x41,x42,x43],[]⟩
noncomputable def sI:=Qf Tryz.f81.body
noncomputable def Iz:=Qb<|Qb sI
noncomputable def Iq:=Qa Iz
noncomputable def Ka:=Qb Iz
noncomputable def Ir:=Qa Ka
noncomputable def Kb:=Qb Ka
noncomputable def Iu:=Qa Kb
noncomputable def Ke:=Qb Kb
noncomputable def Iw:=Qa Ke
noncomputable def Kg:=Qb Ke
def lI:¬Mc bM 81:=xO (by decide) (by decide) Tryz.func81
def NZ:Mc bM 136:=⟨_,_,Tryz.func136,rfl,by kernel_rfl⟩
def pO:Za:=#[.string ⟨#[]⟩,.int .i64 0,.string ⟨#[]⟩,.int .i64 0,.map bN,.int .i64 0,.string ⟨#[]⟩,.string ⟨#[]⟩,.int .i64 0,.string ⟨#[]⟩,.string ⟨#[]⟩,.int .i64 0,.int .i64 0,.int .i64 0,.int .i64 0,.bool bK,.int .i64 0]
def gO(k:Lk)(ck tk:Zl):Zv:= .agg (k.cells ck tk)
def Pc(k:Lk)(a b:Zl):(((((((((((((((((pO.setIfInBounds 0<|zs k.m).setIfInBounds 1<|zi k.tc).setIfInBounds 2<|zs k.mark).setIfInBounds 3<|zi k.op).setIfInBounds 4<|.map<|bO k.mp).setIfInBounds 5<|zi k.ep).setIfInBounds 6<|zs a).setIfInBounds 7<|zs b).setIfInBounds 8<|zi k.cnt).setIfInBounds 9<|zs k.tag).setIfInBounds 10<|zs k.ahead).setIfInBounds 11<|zi k.base).setIfInBounds 12<|zi k.last).setIfInBounds 13<|zi k.named).setIfInBounds 14<|zi k.dK).setIfInBounds 15<|.bool k.dD).setIfInBounds 16<|zi k.whole)=k.cells a b:=by simp[pO,Lk.cells]
def On{w1:Zy}{a:Nat}(k:Lk)(c d:Zl)(b:xx w1 a pO 147):xx (((((((((((((((((w1.setCell (zq a 0)<|zs k.m).setCell (zq a 1)<|zi k.tc).setCell (zq a 2)<|zs k.mark).setCell (zq a 3)<|zi k.op).setCell (zq a 4)<|.map<|bO k.mp).setCell (zq a 5)<|zi k.ep).setCell (zq a 6)<|zs c).setCell (zq a 7)<|zs d).setCell (zq a 8)<|zi k.cnt).setCell (zq a 9)<|zs k.tag).setCell (zq a 10)<|zs k.ahead).setCell (zq a 11)<|zi k.base).setCell (zq a 12)<|zi k.last).setCell (zq a 13)<|zi k.named).setCell (zq a 14)<|zi k.dK).setCell (zq a 15)<|.bool k.dD).setCell (zq a 16)<|zi k.whole) a (k.cells c d) 147:=by
 have h:=(((((((((((((((((b.set 0<|zs k.m).set 1<|zi k.tc).set 2<|zs k.mark).set 3<|zi k.op).set 4<|.map<|bO k.mp).set 5<|zi k.ep).set 6<|zs c).set 7<|zs d).set 8<|zi k.cnt).set 9<|zs k.tag).set 10<|zs k.ahead).set 11<|zi k.base).set 12<|zi k.last).set 13<|zi k.named).set 14<|zi k.dK).set 15<|.bool k.dD).set 16<|zi k.whole);rw[Pc]at h;exact h
def Pa{w1:Zy}{a:Nat}(k:Lk)(b c:Zl):xb (fun x=>x=a) w1<|((((((((((((((((w1.setCell (zq a 0)<|zs k.m).setCell (zq a 1)<|zi k.tc).setCell (zq a 2)<|zs k.mark).setCell (zq a 3)<|zi k.op).setCell (zq a 4)<|.map<|bO k.mp).setCell (zq a 5)<|zi k.ep).setCell (zq a 6)<|zs b).setCell (zq a 7)<|zs c).setCell (zq a 8)<|zi k.cnt).setCell (zq a 9)<|zs k.tag).setCell (zq a 10)<|zs k.ahead).setCell (zq a 11)<|zi k.base).setCell (zq a 12)<|zi k.last).setCell (zq a 13)<|zi k.named).setCell (zq a 14)<|zi k.dK).setCell (zq a 15)<|.bool k.dD).setCell (zq a 16)<|zi k.whole:=((((((((((((((((((xb.refl _ w1).trans<|xb.set _ (zq a 0) _).trans<|xb.set _ (zq a 1) _).trans<|xb.set _ (zq a 2) _).trans<|xb.set _ (zq a 3) _).trans<|xb.set _ (zq a 4) _).trans<|xb.set _ (zq a 5) _).trans<|xb.set _ (zq a 6) _).trans<|xb.set _ (zq a 7) _).trans<|xb.set _ (zq a 8) _).trans<|xb.set _ (zq a 9) _).trans<|xb.set _ (zq a 10) _).trans<|xb.set _ (zq a 11) _).trans<|xb.set _ (zq a 12) _).trans<|xb.set _ (zq a 13) _).trans<|xb.set _ (zq a 14) _).trans<|xb.set _ (zq a 15) _).trans<|xb.set _ (zq a 16) _)
def Cp{a:Nat}{e f:Zl}{c:Zy}(p:xx c a (k.cells e f) 147)(tm:Za)(D:tm[4]?=bO (zo a))(t:Nat->Question->Nat)(d:Nat):
  (aN Tryz.f81 tm).run (wf bM funcs) (re c t d)= .ok (.agg<|k.cells e f) (re c t d):=by
 show(aN Tryz.f81 tm).run prog _=_;have b:xx (re c t d) a (k.cells e f) 147:=p;generalize re c t d=w3 at*;have q:w3.cell? (zq a 0)=bO (zs k.m):=b.cell 0 rfl;have r:w3.cell? (zq a 1)=bO (zi k.tc):=b.cell 1 rfl;have s:w3.cell? (zq a 2)=bO (zs k.mark):=b.cell 2 rfl;have v:w3.cell? (zq a 3)=bO (zi k.op):=b.cell 3 rfl;have w:w3.cell? (zq a 4)=bO (.map<|bO k.mp):=b.cell 4 rfl;have x:w3.cell? (zq a 5)=bO (zi k.ep):=b.cell 5 rfl;have y:w3.cell? (zq a 6)=bO (zs e):=b.cell 6 rfl;have z:w3.cell? (zq a 7)=bO (zs f):=b.cell 7 rfl;have B:w3.cell? (zq a 8)=bO (zi k.cnt):=b.cell 8 rfl;have C:w3.cell? (zq a 9)=bO (zs k.tag):=b.cell 9 rfl;have g:w3.cell? (zq a 10)=bO (zs k.ahead):=b.cell 10 rfl;have h:w3.cell? (zq a 11)=bO (zi k.base):=b.cell 11 rfl;have i:w3.cell? (zq a 12)=bO (zi k.last):=b.cell 12 rfl;have j:w3.cell? (zq a 13)=bO (zi k.named):=b.cell 13 rfl;have l:w3.cell? (zq a 14)=bO (zi k.dK):=b.cell 14 rfl;have n:w3.cell? (zq a 15)=bO (.bool k.dD):=b.cell 15 rfl;have o:w3.cell? (zq a 16)=bO (zi k.whole):=b.cell 16 rfl;clear p b;simp[aN,Tryz.results81,go_sem,D,q,r,s,v,w,x,y,z,B,C,g,h,i,j,l,n,o];rfl
def PJ{tv v0 v3:Zv}{b f:Nat}{R:Ending->Zy->Prop}{C:Exit->Act->Zy->Prop}(Y:tC v0 v3 (zo f) (zo b) a)
  (E:Xa w b k)(F:xx w f pO 147)(D:Wh tv w)(y:b≠f)(X:0<=k.tc)(Z:k.tc<=1000000000000)
  (p:Hid<|∀e a' w',nJ bM funcs Tryz.f81 R e a' w'->C e a' w')
  (q:Hid<|∀w',sS k->xb (fun x=>x=f) w w'->R (.returned<|gO k (Xz k.m k.ep)<|Jm k.m k.ep) w')
  (v:Hid<|∀w',¬sS k->xb (fun x=>x=f) w w'->R (eF tv) w'):
  Kg.wp prog C a w:=by
 obtain⟨x1,x2,x6,x7,x8,x9,bb,bc,bd,be,bf,bg,bh,bi,bj,bk,bl,bm,bn,bo,bp,bq,br,bs,bt,bu,bv,bw,bx,bz,ca,cb,cc,cd,ce,cf,cg,ch,ci,cj,rfl⟩:=Y;have s:=zl E;have z:=zl D;have B:=zl F;clear E D F
 conv=>arg 2;whnf
 go_wp2
 refine(zri b k _ s.o X Z z.o).mono ?_;rintro e w1 ⟨h,⟨rfl,i⟩|⟨rfl,i⟩⟩;rotate_left;refine p.o _ _ _ ⟨rfl,?_⟩;exact v.o _ i.o<|h.mono fun _ x=>x.elim;obtain⟨n,j⟩:∃n,Xz k.m k.ep=n:=⟨_,rfl⟩;obtain⟨o,l⟩:∃o,Jm k.m k.ep=o:=⟨_,rfl⟩;have g:xx w1 b (k.cells n o) 147:=by
  have:=xx.but s.o h id;rw[<-j,<-l];exact this
 rw[j,l]at q;clear j l;have c:=B.o.but h id;have b0:w1.cell? (zq b 0)=bO (zs k.m):=g.cell 0 rfl;have b1:w1.cell? (zq b 1)=bO (zi k.tc):=g.cell 1 rfl;have b2:w1.cell? (zq b 2)=bO (zs k.mark):=g.cell 2 rfl;have b3:w1.cell? (zq b 3)=bO (zi k.op):=g.cell 3 rfl;have b4:w1.cell? (zq b 4)=bO (.map<|bO k.mp):=g.cell 4 rfl;have b5:w1.cell? (zq b 5)=bO (zi k.ep):=g.cell 5 rfl;have b6:w1.cell? (zq b 6)=bO (zs n):=g.cell 6 rfl;have b7:w1.cell? (zq b 7)=bO (zs o):=g.cell 7 rfl;have b8:w1.cell? (zq b 8)=bO (zi k.cnt):=g.cell 8 rfl;have b9:w1.cell? (zq b 9)=bO (zs k.tag):=g.cell 9 rfl;have H:w1.cell? (zq b 10)=bO (zs k.ahead):=g.cell 10 rfl;have I:w1.cell? (zq b 11)=bO (zi k.base):=g.cell 11 rfl;have J:w1.cell? (zq b 12)=bO (zi k.last):=g.cell 12 rfl;have K:w1.cell? (zq b 13)=bO (zi k.named):=g.cell 13 rfl;have L:w1.cell? (zq b 14)=bO (zi k.dK):=g.cell 14 rfl;have M:w1.cell? (zq b 15)=bO (.bool k.dD):=g.cell 15 rfl;have N:w1.cell? (zq b 16)=bO (zi k.whole):=g.cell 16 rfl;have z0:w1.cell? (zq f 0)=bO (.string ⟨#[]⟩):=c.cell 0 rfl;have f0:=c.bT 0;have z1:w1.cell? (zq f 1)=bO (zi 0):=c.cell 1 rfl;have f1:=c.bT 1;have z2:w1.cell? (zq f 2)=bO (.string ⟨#[]⟩):=c.cell 2 rfl;have f2:=c.bT 2;have z3:w1.cell? (zq f 3)=bO (zi 0):=c.cell 3 rfl;have f3:=c.bT 3;have z4:w1.cell? (zq f 4)=bO (.map bN):=c.cell 4 rfl;have f4:=c.bT 4;have z5:w1.cell? (zq f 5)=bO (zi 0):=c.cell 5 rfl;have f5:=c.bT 5;have z6:w1.cell? (zq f 6)=bO (.string ⟨#[]⟩):=c.cell 6 rfl;have f6:=c.bT 6;have z7:w1.cell? (zq f 7)=bO (.string ⟨#[]⟩):=c.cell 7 rfl;have f7:=c.bT 7;have z8:w1.cell? (zq f 8)=bO (zi 0):=c.cell 8 rfl;have f8:=c.bT 8;have z9:w1.cell? (zq f 9)=bO (.string ⟨#[]⟩):=c.cell 9 rfl;have f9:=c.bT 9;have cl:w1.cell? (zq f 10)=bO (.string ⟨#[]⟩):=c.cell 10 rfl;have O:=c.bT 10;have cm:w1.cell? (zq f 11)=bO (zi 0):=c.cell 11 rfl;have Q:=c.bT 11;have cn:w1.cell? (zq f 12)=bO (zi 0):=c.cell 12 rfl;have S:=c.bT 12;have co:w1.cell? (zq f 13)=bO (zi 0):=c.cell 13 rfl;have T:=c.bT 13;have cp:w1.cell? (zq f 14)=bO (zi 0):=c.cell 14 rfl;have U:=c.bT 14;have cq:w1.cell? (zq f 15)=bO (.bool bK):=c.cell 15 rfl;have V:=c.bT 15;have cr:w1.cell? (zq f 16)=bO (zi 0):=c.cell 16 rfl;have W:=c.bT 16;have ba:¬f=b:=fun e=>y e.symm;have G:=zl h;have r:=zl c;clear h g c s z B
 go_wp2
 exact p.o _ _ _ ⟨rfl,.agg _,fun t d=>⟨t,d,Cp (On k n o r.o) _ rfl t d⟩,q.o _ i.o<|(G.o.mono fun _ x=>x.elim).trans<|Pa k n o⟩
def Xa.last{b:Nat}(h:Xa w b k)(l:Int):Xa (w.setCell (zq b 12)<|zi l) b {k with last:=l}:=by
 have:=xx.set h 12<|zi l;exact this
def xm7{v0 e f:Zv}{b:Nat}{d:Exit->Act->Zy->Prop}(m:tC v0 e f (zo b) a)(c:Xa w b k)
  (l:Hid (∀a' w',tC v0 e f (zo b) a'->xb (·=b) w w'->Xa w' b {k with last:=k.base}->d .normal a' w')):Ir.wp prog d a w:=by
 obtain⟨Z,x2,x6,x7,x8,x9,n,o,p,q,r,s,t,v,x,y,z,B,C,D,E,F,G,H,I,J,K,L,M,N,O,Q,R,S,T,U,V,W,X,Y,rfl⟩:=m;have h:w.cell? (zq b 11)=bO (zi k.base):=c.cell 11 rfl;have i:w.cell? (zq b 12)=bO (zi k.last):=c.cell 12 rfl;have j:=c.bT 12;have g:=zl<|Xa.last c k.base;clear c
 conv=>arg 2;whnf
 go_wp2
 exact l.o _ _ ⟨_,_,_,_,_,_,_,_,_,_,_,_,_,_,_,_,_,_,_,_,_,_,_,_,_,_,_,_,_,_,_,_,_,_,_,_,_,_,_,_,rfl⟩ (xb.set w (zq b 12) _) g.o
def TJ(b:Nat)(w:Zy):Nat:=(9999-intOf ((w.cell?<|zq b 12).getD bJ)).toNat
def Qj{b:Nat}(h:Xa w b k):TJ b w=(9999-k.last).toNat:=by
 unfold TJ;rw[h.cell 12 rfl];rfl
def PH{G H:Zv}{b D n:Nat}{d:Dk}{y:Exit->Act->Zy->Prop}(S:tC (zo D) G H (zo b) a)(C:Xa w b k)(hd:Xg w D d)(m:¬d.own D b)(F:k.last=(n:Int))(T:n<=1000000000000)
  (B:Hid (∀a' w',tC (zo D) G H (zo b) a'->xb (·=b) w w'->Xa w' b {k with last:=(Jl d.L n:Int)}->y .normal a' w')):Iu.wp prog y a w:=by
 obtain⟨x1,x2,x6,x7,x8,x9,V,W,X,Y,Z,ba,bb,bc,bd,be,bf,bg,bh,bi,bj,bk,bl,bm,bn,bo,bp,bq,br,bs,bt,bu,bv,bw,bx,bz,b0,b1,b2,b3,rfl⟩:=S;have M:=zl C;have N:=zl hd;have q:=zl m;have O:=zl F;clear C hd m F
 conv=>arg 2;whnf
 go_wp2
 go_loopw [39] (fun _ wr=>∃i:Nat,i<=1000000000000/\Jl d.L n=Jl d.L i/\xb (·=b) w wr/\Xa wr b {k with last:=(i:Int)}) (fun _ wr=>TJ b wr)
 case atStart=>
  refine⟨n,T,rfl,xb.refl _ _,?_⟩;have e:({k with last:=(n:Int)}:Lk)=k:=by rw[<-O.o]
  rw[e];exact M.o
 case round=>
  obtain⟨i,hi,E,f,c⟩:=hrel;have r:=zl E;have p:=zl f;have s:=zl c;have K:Hid<|TJ b wr=(9999-(i:Int)).toNat:=Qj c;have J:=zl (N.o.but f fun x o e=>q.o<|by have e:x=b:=e;rw[<-e];exact o);have Q:wr.cell? (zq b 12)=bO (zi i):=c.cell 12 rfl;have R:=c.bT 12;clear E f c;have hw:IntKind.i64.wrap ((i:Int)+1)=((i+1:Nat):Int):=by rw[xn];omega
  by_cases z:i<9999
  ·have U:(i:Int)<9999:=by omega
   go_wp2
   refine(AV D d _ _ J.o).mono ?_;rintro e w1 ⟨rfl,rfl⟩;obtain⟨x,o⟩:∃x,qu d.L ((i:Int)+1)=x:=⟨_,rfl⟩;rw[o];have j:=zl o;clear o;by_cases l:x=[]
   ·have g:=zl (r.o.trans<|ZJ fun h=>h.2<|(j.o).trans l)
    have t:=xo [];subst l
    go_wp2
    refine B.o _ _ ⟨_,_,_,_,_,_,_,_,_,_,_,_,_,_,_,_,_,_,_,_,_,_,_,_,_,_,_,_,_,_,_,_,_,_,_,_,_,_,_,_,rfl⟩ p.o ?_;rw[g.o];exact s.o
   have g:=zl<|r.o.trans<|Rn z fun h=>l<|j.o.symm.trans h;have t:(st x).toList.isEmpty=bK:=by rw[xo];simpa using l
   clear l
   go_wp2
   have v:Hid<|Xa (w1.setCell (zq b 12)<|zi<|(i:Int)+1) b {k with last:=((i+1:Nat):Int)}:=Xa.last s.o<|(i:Int)+1;have I:=zl<|p.o.trans<|xb.set w1 (zq b 12)<|zi<|(i:Int)+1
   go_roundw
   case rel=>exact⟨i+1,by omega,g.o,I.o,v.o⟩
   case measure=>rw[Qj v.o,K.o];simp;omega
  have U:¬(i:Int)<9999:=by omega
  have g:=zl<|r.o.trans<|ZJ fun h=>z h.1
  go_wp2
  refine B.o _ _ ⟨_,_,_,_,_,_,_,_,_,_,_,_,_,_,_,_,_,_,_,_,_,_,_,_,_,_,_,_,_,_,_,_,_,_,_,_,_,_,_,_,rfl⟩ p.o ?_;rw[g.o];exact s.o
def YZ(l:Zl):Zk (l.take 4)<4294967296:=by
 have h:=LF<|l.take 4;have:(l.take 4).length<=4:=by rw[xt];omega
 have:256^(l.take 4).length<=256^4:=PM (by decide) this;omega
def Ms{F:Ym}(a:qu F 0≠[])(h:¬qJ k.m k.tc (qu F 0)):Wr k F=bN:=by
 unfold Wr;rw[aB a,aB h]
def Mt{F:Ym}(a:qu F 0≠[])(h:qJ k.m k.tc<|qu F 0):Wr k F=(Y6 (iL<|qu F 0) F<|Xz k.m (iL<|qu F 0).ep).map fun L=>(k.begun (iL<|qu F 0) k.mp,L):=by
 unfold Wr;rw[aB a,aA h]
def Pq{F:Ym}(a:qu F 0=[]):Wr k F=bO (k,[]):=by
 unfold Wr;rw[aA a]
def xiv{tv v4:Zv}{b D o lo:Nat}{d:Dk}{E:Exit->Act->Zy->Prop}(ha:tC (zo D) (zo o) v4 (zo b) a)(hb:Xa w b k)(hs:Xd w k.mp [])(hd:Xg w D d)(t:¬d.own D b)(U:2<b)
  (s:xx w o #[zs k.m,zi k.tc,zs k.mark,zi k.op] 91)(hG:Wh tv w)(T:dF w)(hm:k.m.length=32)(hl:(qu d.L 0).length<=1000000)(W:lo<=k.mp)(bb:lo<=w.heap.size)(y:k.base=0)
  (hN:Hid (∀a' w' k1 L1,tC (zo D) (zo o) v4 (zo b) a'->xb (·=b) w w'->Wr {k with mp:=k1.mp} d.L=bO (k1,L1)->Xa w' b k1->Xd w' k1.mp L1->lo<=k1.mp->(∃n:Nat,k1.base=(n:Int)/\n<=4294967296)->E .normal a' w'))
  (hX:Hid (∀a' w',a'.defers=[]->(∀mp,Wr {k with mp:=mp} d.L=bN)->xb (·=b) w w'->E (.panic [{v:=tv,recovered:=bK}]) a' w')):Iq.wp prog E a w:=by
 obtain⟨x1,x2,x6,x7,x8,x9,bc,bd,be,bf,bg,bh,bi,bj,bk,bl,bm,bn,bo,bp,bq,br,bs,bt,bu,bv,bw,bx,bz,b0,b1,b2,b3,b4,b5,b6,b7,b8,b9,ca,rfl⟩:=ha;have HB:=zl hb;have HS:=zl hs;have HD:=zl hd;have J:=zl t;have HG:=zl hG;have HT:=zl T;have HM:=zl hm;have K:=zl y;have c0:w.cell? (zq o 0)=bO (zs k.m):=s.cell 0 rfl;have c1:w.cell? (zq o 1)=bO (zi k.tc):=s.cell 1 rfl;have c2:w.cell? (zq o 2)=bO (zs k.mark):=s.cell 2 rfl;have c3:w.cell? (zq o 3)=bO (zi k.op):=s.cell 3 rfl;obtain⟨x,G⟩:∃x,qu d.L 0=x:=⟨_,rfl⟩;have g:=zl G;have CB:Hid<|Calls prog 76 #[zo D,zi 0] w fun e w'=>e= .returned (zs x)/\w'=w:=by
  have:=AV D d 0 w hd;rw[G]at this;exact this
 rw[G]at hl;have S:1<w.heap.size:=by have:=T.pos;omega
 clear hb hs hd t s hG T hm G y
 conv=>arg 2;whnf
 go_wp2
 refine CB.o.mono ?_;rintro e w1 ⟨rfl,rfl⟩;by_cases j:x=[]
 ·have l:=zl (g.o.trans j)
  have Z:=xo [];subst j
  go_wp2
  refine hN.o _ _ k [] ⟨_,_,_,_,_,_,_,_,_,_,_,_,_,_,_,_,_,_,_,_,_,_,_,_,_,_,_,_,_,_,_,_,_,_,_,_,_,_,_,_,rfl⟩ (xb.refl _ _) (Pq l.o) HB.o HS.o W ⟨0,K.o,by omega⟩
 have l:Hid<|qu d.L 0≠[]:=fun h=>j<|g.o.symm.trans h;have Z:(st x).toList.isEmpty=bK:=by rw[xo];simpa using j
 clear j
 go_wp2
 refine(zra k.m _ k.tc k.op x HM.o hl _ S HT.o HG.o).mono ?_;rintro e H ⟨f,⟨rfl,B⟩|⟨rfl,ba⟩⟩
 ·have Q:Hid<|qJ k.m k.tc<|qu d.L 0:=by show qJ _ _ _;rw[g.o];exact B
  have R:=zl f;have B2:Hid<|Xa H b k:=xx.but HB.o f id;have D2:=zl<|HD.o.but f fun _ _=>id;have G2:=zl<|HG.o.but f id;have T2:=zl<|HT.o.but f id;obtain⟨c,i⟩:∃c,iL x=c:=⟨_,rfl⟩;have O:Hid<|iL (qu d.L 0)=c:=by show _=_;rw[g.o];exact i
  have X:c.len<=100000000000:=by
   have:=YZ<|rM x;rw[<-i];show Zk _<=_;omega
  have M:Hid<|c.base<=4294967296:=by
   have:=YZ<|rQ x;show c.base<=_;rw[<-i];show Zk _<=_;omega
  rw[i];clear f B i;obtain⟨mv,q⟩:∃mv,c.V=mv:=⟨_,rfl⟩;have I:Hid<|Calls prog 134 #[zo b,mv,zo D] H<|vD tv b k c (Y6 c d.L<|Xz k.m c.ep) H:=by
   have:=B7 b k c D d HM.o X H B2.o D2.o J.o U G2.o T2.o;rw[q]at this;exact this
  rw[q];clear q
  go_wp2
  refine I.o.mono ?_;rintro e w3 ⟨p,F⟩;have r:Hid<|∀mp,Wr {k with mp:=mp} d.L=(Y6 c d.L<|Xz k.m c.ep).map fun L=>(k.begun c mp,L):=fun mp=>by
   have:=Mt (k:={k with mp:=mp}) l.o Q.o;rw[O.o]at this;exact this
  cases hq:Y6 c d.L (Xz k.m c.ep)with
  |none=>
   rw[hq]at F;subst F;exact hX.o _ _ rfl (fun mp=>by rw[r.o,hq];rfl)<|(R.o.mono fun _ x=>x.elim).trans p
  |some L1=>
   rw[hq]at F;obtain⟨rfl,mp,Y,C,z⟩:=F;have HF:Hid<|∀a',tC (zo D) (zo o) v4 (zo b) a'->E .normal a' w3:=fun a' h=>hN.o a' w3 _ L1 h ((R.o.mono fun _ x=>x.elim).trans p) (by
    have:=r.o mp;rw[hq]at this;exact this) z C (by have:=R.o.size;show lo<=mp;omega) ⟨c.base,rfl,M.o⟩
   clear z C Y p hq
   go_wp2
   exact HF.o _ ⟨_,_,_,_,_,_,_,_,_,_,_,_,_,_,_,_,_,_,_,_,_,_,_,_,_,_,_,_,_,_,_,_,_,_,_,_,_,_,_,_,rfl⟩
 refine hX.o _ _ rfl (fun mp=>Ms (k:={k with mp:=mp}) l.o ?_)<|f.mono fun _ x=>x.elim;rw[g.o];exact ba
end
end
end P
namespace A
open Tryq Go Go.Conc Go.RowKit
section
variable [pn:Pn]
section
variable {f:List<|Nat×Zv} {n:Nat} {l:Array Bool}
section
variable {P:aV} {F:Array Func} {dm:Frame} {w w':World} {a:Act} {Q:Exit->Act->World->Prop} {fn:FuncId} {ops:Array aD}
def mem_ready{i:Nat}(h:i∈Region.ready .any ops l):∃o,ops[i]?=bO o/\l[i]?=bO bK/\∀e∈o.after,Region.binds .any e=bL->l[e.on]?=bO bL:=by
 unfold Region.ready at h;obtain⟨k,f⟩:=IC.1 h;simp only[xl,Bool.not_eq_true']at f;obtain⟨c,d⟩:=f;cases ho:ops[i]?with
 |none=>rw[ho]at d;simp at d
 |some o=>
  rw[ho]at d;simp only[js,jv]at d;refine⟨o,rfl,?_,fun e j g=>?_⟩;rw[Zj]at c;cases hl:l[i]?with
  |none=>rw[hl]at c;cases c
  |some b=>rw[hl]at c;exact congrArg bO c
  have a:=qi.1 d e j;rw[g]at a;simp only[Bool.not_true,Bool.false_or]at a;rw[Zj]at a;cases hl:l[e.on]?with
  |none=>rw[hl]at a;cases a
  |some b=>rw[hl]at a;exact congrArg bO a
def TG(ops:Array aD):Bool:=(List.range ops.size).all fun i=>match ops[i]?with
 |some o=>o.after.all fun e=>decide (e.on<i)
 |none=>bL
def Sa(hd:TG ops=bL)(j:l.size=ops.size)(h:Region.ready .any ops l=[]):∀i,i<ops.size->l[i]?=bO bL:=by
 intro i;induction i using Nat.strongRecOn with
 |_ i ih=>
  intro a;have f:ops[i]?=bO ops[i]:=xg a;have d:l[i]?=bO l[i]:=xg (by omega);cases hb:l[i]with
  |true=>rw[d,hb]
  |false=>
   exfalso;have:i∈Region.ready .any ops l:=by
    unfold Region.ready;refine IC.2 ⟨List.mem_range.2 a,?_⟩;rw[f];simp only[xl,Bool.not_eq_true',js,jv];refine⟨by rw[Zj,d,hb];rfl,qi.2 fun e g=>?_⟩;have b:e.on<i:=by
     have c:=PY.1 hd i<|List.mem_range.2 a;rw[f]at c;exact Xj<|qi.1 c e g
    rw[Zj,ih _ b<|by omega];simp
   rw[h]at this;cases this
def xA(l:List Bool):Nat:=(l.filter (! ·)).length
def Ro:∀{l:List Bool} {i:Nat},l[i]?=bO bK->xA (l.set i bL)+1=xA l
 |[],i,h=>by cases h
 |b::l,0,h=>by
  cases h;simp[xA]
 |b::l,i+1,h=>by
  have:=Ro (l:=l) h;unfold xA at this⊢;rw[Zz];cases b<;>simp<;>omega
def Oy:∀{l:List Bool} {i:Nat},xA l=0->l[i]?≠bO bK
 |[],i,h,e=>by cases e
 |b::l,0,h,e=>by
  cases e;simp[xA]at h
 |b::l,i+1,h,e=>by
  refine Oy (l:=l) ?_ e;unfold xA at h⊢;cases b<;>simp at h⊢
  exact h
def Xn.inv(K:J0 P F){id:Nat}(x:¬Mc P fn)(y:P.follows .mixedOrders=bL)(c:TG ops=bL)(J:Array Bool->Act->Zy->Prop)(s:J (aW ops.size bK) a w)
  (b:∀l a w,J l a w->(∀i,i<ops.size->l[i]?=bO bL)->Q .normal a w)
  (d:∀l a w i o,J l a w->l.size=ops.size->ops[i]?=bO o->l[i]?=bO bK->(∀e∈o.after,Region.binds .any e=bL->l[e.on]?=bO bL)->oX P fn ops Q i (J<|l.setIfInBounds i bL) a w):Xn P fn (.region id ops bL) Q a w:=by
 have p:∀(m:Nat) (l:Array Bool) (a:Act) (w:Zy),l.size=ops.size->xA l.toList=m->J l a w->UH P fn .any ops Q m l a w:=by
  intro m;induction m with
  |zero=>
   intro l a w f q h;have j:Region.ready .any ops l=[]:=by
    refine List.eq_nil_iff_forall_not_mem.2 fun i n=>?_;obtain⟨o,_,g,_⟩:=mem_ready n;exact Oy q<|by simpa using g
   exact⟨j,b l a w h<|Sa c f j⟩
  |succ m ih=>
   intro l a w f q h;refine⟨fun j=>b l a w h<|Sa c f j,fun i n=>?_⟩;obtain⟨o,t,g,v⟩:=mem_ready n;refine(d l a w i o h f t g v).mono fun r z k=>ih _ r z (by simpa using f) ?_ k;have:=Ro (l:=l.toList) (by simpa using g);rw[Array.toList_setIfInBounds];omega
 refine Xn.any K x y<|p _ _ a w (by simp) ?_ s;simp[xA]
def EH{i j:Nat}(h:(l.setIfInBounds i bL)[j]?=bO bL):j=i\/l[j]?=bO bL:=by
 by_cases e:j=i;exact .inl e;rw[zd fun h=>e h.symm]at h;exact .inr h
end
end
end
section
variable [pn:Pn]
section
variable {w w':World} {a:Act} {l:Array Bool} {i j:Nat} {p p':Prop}
def UM{f:FuncId}{args:Za}{R:Ending->Zy->Prop}{fn:Func}(g:kJ f=bK)(i:f≠220)(a:Tryz.prog.funcs[f]?=bO fn)(hw:VW fn=bL)(c:∀e w t d,R e (re w t d)->R e w)(b:∀w',¬R .outgrown w')
  (h:∀t d,Calls prog f args (re w t d) R):CC bM f args w R:=CC.jL bQ kZ (bZ g a hw) (xO g i a) ⟨_,a⟩ c b h
def At(a:Act)(t:Nat)(v:Zv):Prop:=a.tmps[t]?=bO v
def At.ev{t:Nat}{v:Zv}(h:At a t v):a.eval (.tmp t)=v:=by
 unfold At at h;simp[Act.eval,h]
def At.put{t s:Nat}{v:Zv}(h:At a t v)(b:t≠s)(u:Zv):At (a.put (bO s) u) t v:=by
 unfold At at h⊢;simp only[Act.put];rw[zd fun e=>b e.symm];exact h
def At.new{t n:Nat}{v:Zv}(b:a.tmps.size=n)(h:t<n):At (a.put (bO t) v) t v:=by
 unfold At;simp[Act.put,b,h]
def AP{s n:Nat}{u:Zv}(h:a.tmps.size=n):(a.put (bO s) u).tmps.size=n:=by simpa[Act.put]using h
def Li(l:Array Bool)(j:Nat)(p:Prop):Prop:=l[j]?=bO bL->p
def Li.none{n:Nat}:Li (aW n bK) j p:=fun h=>by
 rw[Array.getElem?_replicate]at h;split at h<;>cases h
def Li.next(h:Li l j p)(a:j≠i)(k:p->p'):Li (l.setIfInBounds i bL) j p':=fun b=>k<|h<|(EH b).resolve_left a
def Li.now(k:p):Li l i p:=fun _=>k
end
end
end A
namespace P
open A.Tryq Go.RowKit A
section
variable [pn:A.Pn]
section
variable {b:Nat}
def GI(cs:Za):Nat->Ze->Za
 |_,[]=>cs
 |o,v::vs=>GI (cs.setIfInBounds o v) (o+1) vs
def Bj:∀(vs:Ze) (cs:Za) (o j:Nat),o+vs.length<=cs.size->(GI cs o vs)[j]?=if o<=j/\j<o+vs.length then vs[j-o]?else cs[j]?
 |[],cs,o,j,h=>by
  rw[aB<|by simp];rfl
 |v::vs,cs,o,j,h=>by
  simp only[zh]at h;rw[GI,Bj vs _ (o+1) j<|by simp;omega];simp only[zh];by_cases a:o+1<=j/\j<o+1+vs.length;rw[aA a,aA<|by omega,show j-o=(j-(o+1))+1 by omega,Xb];rw[aB a];by_cases b:j=o;subst b;rw[aA<|by omega,V9,Xl,zx<|by omega];rw[aB<|by omega,zd fun e=>b e.symm]
def WD(cs cs':Za)(h:cs.size=cs'.size):GI cs 0 cs'.toList=cs':=by
 apply Yc;intro j;rw[Bj _ _ _ _<|by simp;omega];simp only[Vj,true_and,jy,Array.length_toList,Nat.sub_zero,Array.getElem?_toList];split;rfl;rw[ju<|by omega,ju<|by omega]
def xx.setCells{t:Zt}:∀(vs:Ze) {cs:Za} {w:Zy} (o:Nat),xx w b cs t->xx (w.setCells b o vs) b (GI cs o vs) t
 |[],cs,w,o,h=>h
 |v::vs,cs,w,o,h=>by
  have a:=xx.setCells vs (o+1)<|h.set o v;exact a
def xb.setCells:∀(vs:Ze) (w:Zy) (o:Nat),xb (·=b) w (w.setCells b o vs)
 |[],w,o=>xb.refl _ _
 |v::vs,w,o=>(xb.set w (zq b o) v).trans<|xb.setCells vs _<|o+1
def xx.load{w:Zy}{cs:Za}{t ty:Zt}{d:TypeDesc}(h:xx w b cs t)(c:prog.underlying ty=bO d)(hd:d.isRow=bL)(a:(prog.info? ty).map (·.size)=bO cs.size):(loadVar ty<|zq b 0).run prog w= .ok (.agg cs) w:=by
 have:=run_loadVar_mid w b 0 ty cs.toList d (fun j v e=>by rw[jy];exact h.cell j<|by simpa using e) c hd (by simpa using a);simpa using this
def xx.store{w:Zy}{cs cs':Za}{t ty:Zt}(h:xx w b cs t)(i:cs.size=cs'.size)(g:(prog.info? ty).map (·.size)=bO cs'.size)(f:cs'.all (·.oneCell')=bL):
  ∃w',(storeVar ty (zq b 0)<|.agg cs').run prog w= .ok () w'/\xx w' b cs' t/\xb (·=b) w w'/\∀t d,(storeVar ty (zq b 0)<|.agg cs').run prog (re w t d)= .ok () (re w' t d):=by
 have c:∀w,xx w b cs t->(storeVar ty (zq b 0)<|.agg cs').run prog w= .ok () (w.setCells b 0 cs'.toList):=fun w h=>run_storeVar_mid w b 0 ty cs' (fun j k=>by
  rw[jy];refine⟨?_,h.bT j⟩;rw[h.cell j (v:=cs[j]'(by omega))<|xg<|by omega];rfl) g f
 have e:∀(a:Ze) (w:Zy) (o:Nat) (t:Nat->Question->Nat) (d:Nat),(re w t d).setCells b o a=re (w.setCells b o a) t d:=by
  intro a;induction a with
  |nil=>intro w o t d;rfl
  |cons v a ih=>
   intro w o t d;show((re w t d).setCell (zq b o) v).setCells b (o+1) a=re ((w.setCell (zq b o) v).setCells b (o+1) a) t d;rw[<-ih]
   congr 1
 refine⟨_,c w h,?_,xb.setCells _ _ _,fun t d=>?_⟩;have:=xx.setCells cs'.toList 0 h;rwa[WD _ _ i]at this;rw[c (re w t d) h,e]
end
end
section
variable [pn:A.Pn]
attribute [local go_sem] xe zv
section
variable {w w':Zy} {l:Array Bool} {T:List<|Nat×Nat×Zv} {b:Nat}
noncomputable def qG:Array aD:=match sI with
 | .seq _ (.seq (.region _ ops _) _)=>ops
 |_=>#[]
def ZN:qG.size=8:=by kernel_rfl
def mixed:Tryz.prog.follows .mixedOrders=bL:=by kernel_rfl
def xup:TG qG=bL:=by kernel_rfl
def iV(m mark:Zl)(tc op:Int):Za:=#[.string<|st m,.int .i64 tc,.string<|st mark,.int .i64 op]
def Mk{ρ:Operand->Zv}{o:aD}{ty:Zt}{x:Operand}{w:Zy}{cs:Za}{t:Zt}{d:TypeDesc}(ho:o.op= .load ty x)(hx:ρ x=zo b)(h:xx w b cs t)(c:prog.underlying ty=bO d)(hd:d.isRow=bL)(a:(prog.info? ty).map (·.size)=bO cs.size):
  (bG ρ o).run prog w= .ok (.value<|.agg cs) w:=by
 unfold bG;simp only[ho,hx,Instr.loadAt,Instr.sureAddr,Sem.run_bind,DT,Result.andThen_ok,h.load c hd a]
def Lp{ρ:Operand->Zv}{o:aD}{ty:Zt}{x y:Operand}{cs':Za}(ho:o.op= .store ty x y)(hx:ρ x=zo b)(hy:ρ y= .agg cs')(h:(storeVar ty (zq b 0)<|.agg cs').run prog w= .ok () w'):
  (bG ρ o).run prog w= .ok .skip w':=by
 unfold bG;simp only[ho,hx,hy,Instr.storeAt,Instr.sureAddr,Sem.run_bind,DT,Result.andThen_ok,h]
def Ap:∃d,prog.underlying 91=bO d/\d.isRow=bL:=⟨_,(cK 91).trans Tryz.underlying91,rfl⟩
def Gr:(prog.info? 147).map (·.size)=bO 17:=by kernel_rfl
def i78:(prog.info? 91).map (·.size)=bO 4:=by kernel_rfl
def Tb(T:List<|Nat×Nat×Zv)(l:Array Bool)(a:Act):Prop:=∀x∈T,Li l x.1<|At a x.2.1 x.2.2
def Tb.put{a:Act}(h:Tb T l a){n i s:Nat}{v:Zv}(f:a.tmps.size=n)(d:s<n)(c:∀x∈T,(x.2.1≠s/\x.1≠i)\/x=(i,s,v)):Tb T (l.setIfInBounds i bL)<|a.put (bO s) v:=fun x b=>(c x b).elim (fun e=>(h x b).next e.2 fun y=>y.put e.1 _) fun e=>by subst e;exact .now<|.new f d
def Tb.skip{a:Act}(h:Tb T l a){i:Nat}(c:∀x∈T,x.1≠i):Tb T (l.setIfInBounds i bL) a:=fun x b=>(h x b).next (c x b) id
def Tb.none{n:Nat}{a:Act}:Tb T (aW n bK) a:=fun _ _=> .none
structure qV(w:Zy)(v0:Zv)(r3:Nat)(v4:Zv)(m mark:Zl)(tc op:Int)(mp b:Nat)(l:Array Bool)(a:Act)(w':Zy):Prop where
 df:a.defers=[]
 sz:a.tmps.size=44
 nw:Nw w w'
 s0:At a 0 v0
 s3:At a 3<|zo r3
 s4:At a 4 v4
 T:Tb [(0,7,.agg<|iV m mark tc op),(2,9,.agg<|iV m mark tc op),(3,10,.agg #[zs<|Xz m 0,zs<|Jm m 0]),(4,11,zs oV)] l a
 l1:Li l 1<|At a 8 (.map<|bO mp)/\w.heap.size<=mp/\Xd w' mp []
 l5:Li l 5<|l[1]?=bO bL/\At a 12 (.agg<|(Jp m mark tc op mp).cells (Xz m 0)<|Jm m 0)
 l6:Li l 6<|At a 5 (zo b)/\w.heap.size<=b/\(l[7]?=bO bK->xx w' b pO 147)
 l7:Li l 7<|(l[1]?=bO bL/\l[6]?=bO bL)/\Xa w' b (Jp m mark tc op mp)
def JM{i j:Nat}(h:(l.setIfInBounds i bL)[j]?=bO bK)(a:i≠j):l[j]?=bO bK:=by
 rwa[zd a]at h
def Vo{i j:Nat}(h:l[j]?=bO bL):(l.setIfInBounds i bL)[j]?=bO bL:=by
 by_cases e:i=j;subst e;rw[zx (za.1 h).1];rw[zd e];exact h
def xx.nw{cs:Za}{t:Zt}(h:xx w b cs t)(k:Nw w w'):xx w' b cs t:=h.but k id
def Xd.nw{L:KV}(h:Xd w b L)(k:Nw w w'):Xd w' b L:=h.but k id
def Xa.nw{k:Lk}(h:Xa w b k)(a:Nw w w'):Xa w' b k:=xx.but h a id
def Nw.alloc(w:Zy)(o:Obj):Nw w<|w.alloc o:=xb.alloc _
def Nw.gL(h:Nw w w')(t:Nat->Question->Nat)(d:Nat):Nw w<|re w' t d:=⟨h.os,h.output,h.size,h.block⟩
def Nw.of_below{t:Nat->Question->Nat}{d:Nat}(h:Below (A.re w t d).heap.size (A.re w t d) w'):Nw w w':=⟨h.os,h.output,h.size,fun k hk _=>h.block k hk⟩
def dF.nw(h:dF w)(k:Nw w w'):dF w':=h.but k id
def Wh.nw{tv:Zv}(h:Wh tv w)(k:Nw w w'):Wh tv w':=h.but k id
def cT{i n:Nat}(b:l.size=n)(a:i<n):(l.setIfInBounds i bL)[i]?=bO bL:=by
 rw[zx<|by omega]
section
variable {w:World} {v0 v4:Value} {r3:Nat} {m mark:List UInt8} {tc op:Int} {mp b:Nat} {l:Array Bool} {a:Act} {w1:World} {Q:Exit->Act->World->Prop}
def xS(w:Zy)(v0:Zv)(r3:Nat)(v4:Zv)(m mark:Zl)(tc op:Int)(l:Array Bool)(a:Act)(w1:Zy)(Q:Exit->Act->Zy->Prop)(i:Nat):Prop:=∀o:aD,l.size=qG.size->qG[i]?=bO o->l[i]?=bO bK->(∀e∈o.after,Region.binds .any e=bL->l[e.on]?=bO bL)->oX bM 81 qG Q i (fun a w1=>∃mp b,qV w v0 r3 v4 m mark tc op mp b (l.setIfInBounds i bL) a w1) a w1
def qV.go(J:qV w v0 r3 v4 m mark tc op mp b l a w1){e:Zy}(d:Nw w1 e){i s:Nat}{v:Zv}(f:i=0\/i=2\/i=3\/i=4)(g:s=i+7)(c:∀x∈[(0,7,.agg<|iV m mark tc op),(2,9,.agg<|iV m mark tc op),(3,10,.agg #[zs<|Xz m 0,zs<|Jm m 0]),(4,11,zs oV)],(x.2.1≠s/\x.1≠i)\/x=(i,s,v)):∃mp b,qV w v0 r3 v4 m mark tc op mp b (l.setIfInBounds i bL) (a.put (bO s) v) e:=
 ⟨mp,b,J.df,AP J.sz,J.nw.trans d,J.s0.put (by omega) _,J.s3.put (by omega) _,J.s4.put (by omega) _,J.T.put J.sz (by omega) c,J.l1.next (by omega) fun x=>⟨x.1.put (by omega) _,x.2.1,x.2.2.nw d⟩,J.l5.next (by omega) fun x=>⟨Vo x.1,x.2.put (by omega) _⟩,J.l6.next (by omega) fun x=>⟨x.1.put (by omega) _,x.2.1,fun h=>(x.2.2<|JM h<|by omega).nw d⟩,J.l7.next (by omega) fun x=>⟨⟨Vo x.1.1,Vo x.1.2⟩,Xa.nw x.2 d⟩⟩
def xu7(g:xx w r3 (iV m mark tc op) 91)(J:qV w v0 r3 v4 m mark tc op mp b l a w1):xS w v0 r3 v4 m mark tc op l a w1 Q 0:=fun o k c j hd=>by
 have e:=c;simp[qG,sI,Tryz.f81,Qf]at c;subst c;obtain⟨d,i,h⟩:=Ap;refine oX.value bQ lI e rfl (fun t f=>⟨t,f,Mk rfl J.s3.ev (show xx _ r3 _ 91 from g.nw<|J.nw.gL t f) i h i78⟩)<|J.go (xb.refl _ _) (by simp) rfl<|by simp
def xu9(g:xx w r3 (iV m mark tc op) 91)(J:qV w v0 r3 v4 m mark tc op mp b l a w1):xS w v0 r3 v4 m mark tc op l a w1 Q 2:=fun o k c j hd=>by
 have e:=c;simp[qG,sI,Tryz.f81,Qf]at c;subst c;obtain⟨d,i,h⟩:=Ap;refine oX.value bQ lI e rfl (fun t f=>⟨t,f,Mk rfl J.s3.ev (show xx _ r3 _ 91 from g.nw<|J.nw.gL t f) i h i78⟩)<|J.go (xb.refl _ _) (by simp) rfl<|by simp
def xu8(J:qV w v0 r3 v4 m mark tc op mp b l a w1):xS w v0 r3 v4 m mark tc op l a w1 Q 1:=fun o j c e hd=>by
 have d:=c;simp[qG,sI,Tryz.f81,Qf]at c;subst c;have g:¬l[5]?=bO bL:=fun h=>by have:=(J.l5 h).1;rw[e]at this;cases this
 have i:¬l[7]?=bO bL:=fun h=>by have:=(J.l7 h).1.1;rw[e]at this;cases this
 refine oX.value (val:= .map (bO w1.heap.size)) (w':=w1.alloc<|.map #[] 0) bQ lI d rfl (fun t f=>⟨t,f,?_⟩) ⟨w1.heap.size,b,⟨J.df,AP J.sz,J.nw.trans<|Nw.alloc _ _,(J.s0.put (by decide) _),(J.s3.put (by decide) _),(J.s4.put (by decide) _),J.T.put J.sz (by decide)<|by simp,.now ⟨.new J.sz<|by decide,J.nw.size,#[],0,jw _ _,rfl,MapKept.stamped_empty 0⟩,fun h=>absurd ((EH h).resolve_left<|by decide) g,J.l6.next (by decide) fun x=>⟨(x.1.put (by decide) _),x.2.1,fun h=>(x.2.2<|JM h<|by decide).nw<|Nw.alloc _ _⟩,fun h=>absurd ((EH h).resolve_left<|by decide) i⟩⟩;rfl
def xva(p:m.length=32)(n:dF w)(J:qV w v0 r3 v4 m mark tc op mp b l a w1):xS w v0 r3 v4 m mark tc op l a w1 Q 3:=fun o s c r hd=>by
 have g:=c;simp[qG,sI,Tryz.f81,Qf]at c;subst c;have k:a.tmps[9]?=bO _:=J.T (2,9,.agg<|iV m mark tc op) (by simp)<|hd ⟨2,.data⟩ (by simp) rfl;refine oX.call (R:=fun e i=>e= .returned (.agg #[zs<|Xz m 0,zs<|Jm m 0])/\Nw w1 i) bQ lI J.df g rfl (f:=90) (args:=#[.agg<|iV m mark tc op,zi 0]) (fun v=>?_) (bZ rfl Tryz.func90 rfl) (UM rfl (by decide) Tryz.func90 rfl (fun e w t d h=>⟨h.1,h.2.re⟩) (fun i h=>by cases h.1) fun t d=>(EO m mark tc op 0 p (re w1 t d)<|n.nw<|J.nw.gL t d).mono fun e i h=>⟨h.1,Nw.of_below h.2⟩) ?_ ?_
 ·show(bG a.eval _).run prog v=_
  simp[bG,go_sem,resolve,k]
 rintro v q ⟨e,j⟩;cases e;exact J.go j (by simp) rfl (by simp);rintro ch q ⟨e,j⟩;cases e
def xvb(J:qV w v0 r3 v4 m mark tc op mp b l a w1):xS w v0 r3 v4 m mark tc op l a w1 Q 4:=fun o p c n hd=>by
 have g:=c;simp[qG,sI,Tryz.f81,Qf]at c;subst c;refine oX.call (R:=fun e i=>e= .returned (zs oV)/\Nw w1 i) bQ lI J.df g rfl (f:=73) (args:=#[]) (fun v=>?_) (bZ rfl Tryz.func73 rfl) (UM rfl (by decide) Tryz.func73 rfl (fun e w t d h=>⟨h.1,h.2.re⟩) (fun i h=>by cases h.1) fun t d=>(aE<|re w1 t d).mono fun e i h=>⟨h.1,Nw.of_below h.2⟩) ?_ ?_
 ·show(bG a.eval _).run prog v=_
  simp[bG,go_sem,resolve]
 rintro v k ⟨e,j⟩;cases e;exact J.go j (by simp) rfl (by simp);rintro ch k ⟨e,j⟩;cases e
def xvc(J:qV w v0 r3 v4 m mark tc op mp b l a w1):xS w v0 r3 v4 m mark tc op l a w1 Q 5:=fun o n e k hd=>by
 have f:=e;simp[qG,sI,Tryz.f81,Qf]at e;subst e;have i:l[1]?=bO bL:=hd ⟨1,.data⟩ (by simp) rfl;have j:a.tmps[7]?=bO _:=J.T (0,7,.agg<|iV m mark tc op) (by simp)<|hd ⟨0,.data⟩ (by simp) rfl;have e8:a.tmps[8]?=bO _:=(J.l1 i).1;have c:a.tmps[10]?=bO _:=J.T (3,10,.agg #[zs<|Xz m 0,zs<|Jm m 0]) (by simp)<|hd ⟨3,.data⟩ (by simp) rfl;have d:a.tmps[11]?=bO _:=J.T (4,11,zs oV) (by simp)<|hd ⟨4,.data⟩ (by simp) rfl;refine oX.value (val:= .agg ((Jp m mark tc op mp).cells (Xz m 0)<|Jm m 0)) (w':=w1) bQ lI f rfl (fun t g=>⟨t,g,?_⟩) ⟨mp,b,⟨J.df,AP J.sz,J.nw,(J.s0.put (by decide) _),(J.s3.put (by decide) _),(J.s4.put (by decide) _),J.T.put J.sz (by decide)<|by simp,J.l1.next (by decide) fun x=>⟨(x.1.put (by decide) _),x.2.1,x.2.2⟩,.now ⟨Vo i,.new J.sz<|by decide⟩,J.l6.next (by decide) fun x=>⟨(x.1.put (by decide) _),x.2.1,fun h=>x.2.2<|JM h<|by decide⟩,J.l7.next (by decide) fun x=>⟨⟨Vo x.1.1,Vo x.1.2⟩,x.2⟩⟩⟩;show(bG a.eval _).run prog (re w1 t g)=_;simp[bG,go_sem,j,e8,c,d,iV];rfl
def xvd(J:qV w v0 r3 v4 m mark tc op mp b l a w1):xS w v0 r3 v4 m mark tc op l a w1 Q 6:=fun o i c f hd=>by
 have d:=c;simp[qG,sI,Tryz.f81,Qf]at c;subst c;have g:¬l[7]?=bO bL:=fun h=>by have:=(J.l7 h).1.2;rw[f]at this;cases this
 refine oX.value (val:=zo w1.heap.size) (w':=w1.alloc<|.cells pO 147) bQ lI d rfl (fun t e=>⟨t,e,?_⟩) ⟨mp,w1.heap.size,⟨J.df,AP J.sz,J.nw.trans<|Nw.alloc _ _,(J.s0.put (by decide) _),(J.s3.put (by decide) _),(J.s4.put (by decide) _),J.T.put J.sz (by decide)<|by simp,J.l1.next (by decide) fun x=>⟨(x.1.put (by decide) _),x.2.1,x.2.2.nw<|Nw.alloc _ _⟩,J.l5.next (by decide) fun x=>⟨Vo x.1,(x.2.put (by decide) _)⟩,.now ⟨.new J.sz<|by decide,J.nw.size,fun _=>xx.new _ _ _⟩,fun h=>absurd ((EH h).resolve_left<|by decide) g⟩⟩;show(bG a.eval _).run prog (re w1 t e)=_;simp[bG,go_sem];exact⟨rfl,rfl⟩
def xve(J:qV w v0 r3 v4 m mark tc op mp b l a w1):xS w v0 r3 v4 m mark tc op l a w1 Q 7:=fun o G k F hd=>by
 have n:=k;simp[qG,sI,Tryz.f81,Qf]at k;subst k;have B:=(J.l5<|hd ⟨5,.data⟩ (by simp) rfl).1;have s:l[6]?=bO bL:=hd ⟨6,.data⟩ (by simp) rfl;have g:=(J.l5<|hd ⟨5,.data⟩ (by simp) rfl).2.ev;obtain⟨z,H,f⟩:=J.l6 s;have C:=z.ev;have y:=f F;obtain⟨I,L,E,d,p⟩:=y.store (cs':=(Jp m mark tc op mp).cells (Xz m 0)<|Jm m 0) (ty:=147) rfl Gr (by simp[Lk.cells,Value.oneCell']);have j:∀{mp},Xd w1 mp []->¬mp=b:=fun h e=>by obtain⟨K,c,D⟩:=h.blk;exact y.cZ D e.symm
 have q:Nw w I:=⟨d.os.trans J.nw.os,d.output.trans J.nw.output,xz J.nw.size d.size,fun i v _=>(d.block i (zn v J.nw.size)<|by show¬i=b;omega).trans<|J.nw.block i v id⟩;refine oX.skip bQ lI n rfl (fun t r=>⟨t,r,Lp rfl C g<|p t r⟩) ⟨mp,b,⟨J.df,J.sz,q,J.s0,J.s3,J.s4,J.T.skip<|by simp,J.l1.next (by decide) fun x=>⟨x.1,x.2.1,x.2.2.but d<|j x.2.2⟩,J.l5.next (by decide) fun x=>⟨Vo x.1,x.2⟩,J.l6.next (by decide) fun x=>⟨x.1,x.2.1,fun h=>absurd h<|by rw[cT G<|by rw[ZN];decide];simp⟩,.now ⟨⟨Vo B,Vo s⟩,E⟩⟩⟩
noncomputable def XP:=Qa<|Qb sI
def xo2:XP= .region 1 qG bL:=by kernel_rfl
def xm6(t:m.length=32)(r:dF w)(k:xx w r3 (iV m mark tc op) 91)(g:a.defers=[])(j:a.tmps.size=44)(s0:At a 0 v0)(s3:At a 3<|zo r3)(s4:At a 4 v4)
  (q:∀a' w' mp b,a'.defers=[]->a'.tmps.size=44->At a' 0 v0->At a' 3 (zo r3)->At a' 4 v4->At a' 5 (zo b)->Nw w w'->w.heap.size<=mp->w.heap.size<=b->Xd w' mp []->Xa w' b (Jp m mark tc op mp)->Q .normal a' w'):Xn bM 81 XP Q a w:=by
 rw[xo2];refine Xn.inv bQ lI mixed xup (fun l a w1=>∃mp b,qV w v0 r3 v4 m mark tc op mp b l a w1) ⟨0,0,g,j,xb.refl _ _,s0,s3,s4,.none,.none,.none,.none,.none⟩ ?_ ?_;rintro l a' w' ⟨mp,b,J⟩ f;have c:∀i,i<8->l[i]?=bO bL:=fun i n=>f i (by rw[ZN];exact n);obtain⟨p,s,_⟩:=J.l6 (c 6<|by decide);obtain⟨_,h,d⟩:=J.l1 (c 1<|by decide);exact q a' w' mp b J.df J.sz J.s0 J.s3 J.s4 p J.nw h s d (J.l7<|c 7<|by decide).2;rintro l a' w' i o ⟨mp,b,J⟩ d e c hd;have n:i<8:=by have:=(za.1 e).1;rwa[ZN]at this
 have:i=0\/i=1\/i=2\/i=3\/i=4\/i=5\/i=6\/i=7:=by omega
 rcases this with rfl|rfl|rfl|rfl|rfl|rfl|rfl|rfl;exact xu7 k J o d e c hd;exact xu8 J o d e c hd;exact xu9 k J o d e c hd;exact xva t r J o d e c hd;exact xvb J o d e c hd;exact xvc J o d e c hd;exact xvd J o d e c hd;exact xve J o d e c hd
noncomputable def Iy:=Qa sI
def xm5{a:Exit->Act->Zy->Prop}(f:Hid<|∀a' w',a'.defers=[]->a'.tmps.size=44->At a' 0 v0->At a' 3 (zo w.heap.size)->At a' 4 (zo<|w.heap.size+1)->Nw w w'->w'.heap.size=w.heap.size+2->xx w' w.heap.size (iV m mark tc op) 91->xx w' (w.heap.size+1) pO 147->a .normal a' w'):
  Iy.wp prog a ⟨#[v0,.agg<|iV m mark tc op]++aW (44-2) bJ,[]⟩ w:=by
 have b:=zl<|(xx.new w (iV m mark tc op) 91).alloc<|.cells pO 147;have c:Hid<|xx ((w.alloc<|.cells (iV m mark tc op) 91).alloc<|.cells pO 147) (w.heap.size+1) pO 147:=by
  have:=xx.new (w.alloc<|.cells (iV m mark tc op) 91) pO 147;rw[xh]at this;exact this
 have e:Hid<|Nw w<|(w.alloc<|.cells (iV m mark tc op) 91).alloc<|.cells pO 147:=(Nw.alloc _ _).trans<|Nw.alloc _ _;have d:Hid<|((w.alloc<|.cells (iV m mark tc op) 91).alloc<|.cells pO 147).heap.size=w.heap.size+2:=by show _=_;simp
 simp only[jg,zh,jn,Nat.reduceAdd,Nat.reduceSub,qw,qx,Z7,Zi,jk,jc]
 conv=>arg 2;whnf
 unfold iV at*
 go_wp2
 exact f.o _ _ rfl rfl rfl rfl rfl e.o d.o b.o c.o
end
end
end
section
variable [pn:A.Pn]
def xnz{k k':Lk}{L L':KV}{kind a body tag:Zl}{ep cnt:Nat}(h:jJ k L kind ep cnt a body tag=bO (k',L')):k'.tc=k.tc:=by
 unfold jJ at h;split at h;cases h;split at h;split at h;rw[DW h];cases h;split at h;split at h;rw[DW h];cases h;cases h
def cJ:∀(n:Nat) {k k':Lk} {L L':KV} {l r:Zl},oF n k L l=bO (k',L',r)->k'.tc=k.tc
 |0,k,k',L,L',l,r,h=>by
  simp only[oF,zp,qg]at h;obtain⟨rfl,_⟩:=h;rfl
 |n+1,k,k',L,L',l,r,h=>by
  unfold oF at h;by_cases a:X7 l=bL;rw[aA a]at h;cases hr:lY k L l with
  |none=>rw[hr]at h;cases h
  |some p=>
   obtain⟨c,b⟩:=p;rw[hr]at h;exact(cJ n h).trans<|xnz hr
  rw[aB a]at h;simp only[zp,qg]at h;obtain⟨rfl,_⟩:=h;rfl
def Sl{k k':Lk}{L L':KV}{a:Int}{len whole:Nat}(h:Wq k L a len whole=bO (k',L')):k'.tc=k.tc:=by
 unfold Wq at h;split at h;split at h;simp only[zp,qg]at h;obtain⟨rfl,_⟩:=h;rfl;cases h;simp only[zp,qg]at h;obtain⟨rfl,_⟩:=h;rfl
def xoa{k k':Lk}{L L':KV}{a:Nat}{x:Zl}(h:eP k L a x=bO (k',L')):k'.tc=k.tc:=by
 unfold eP at h;split at h;split at h;cases h;split at h
 rename_i k1 L1 r hr
 exact(Sl h).trans<|cJ _ (show oF _ k L _=bO _ from hr);cases h;exact Sl h
def Cf{fs:Nat->Zl}{n:Nat}{k:Lk}{L:KV}:∀(r:Nat) {k':Lk} {L':KV},dJ fs n k L r=bO (k',L')->k'.tc=k.tc
 |0,k',L',h=>by
  simp only[dJ,zp,qg]at h;obtain⟨rfl,_⟩:=h;rfl
 |r+1,k',L',h=>by
  unfold dJ at h;cases hr:dJ fs n k L r with
  |none=>rw[hr]at h;cases h
  |some p=>
   obtain⟨b,a⟩:=p;rw[hr]at h;exact(xoa h).trans<|Cf r hr
def WF{k c:Lk}{F:Ym}{e:KV}(h:Wr k F=bO (c,e))(hk:k.ok):c.ok/\c.tc=k.tc:=by
 by_cases b:qu F 0=[];rw[Pq b]at h;simp only[zp,qg]at h;rw[<-h.1];exact⟨hk,rfl⟩;by_cases a:qJ k.m k.tc<|qu F 0;rw[Mt b a]at h;obtain⟨L,_,d⟩:=zt.1 h;simp only[qg]at d;rw[<-d.1];refine⟨⟨hk.m,?_,?_,?_⟩,rfl⟩;show(iL<|qu F 0).ep<=255;have:=a.ep;omega;exact YZ _;show((rO<|qu F 0).take 32).length=32;have:=(Ux a.len).j.1;rw[xt];omega;rw[Ms b a]at h;cases h
section
variable {k k1 k2:Lk} {F:Ym} {L1 L2:KV} {n:Nat}
def sL(b:Wr k F=bO (k1,L1))(c:k1.base=(n:Int))(a:dJ (fun i=>qu F (i:Int)) (n+1) {k1 with last:=(Jl F n:Int)} L1 (Jl F n-n)=bO (k2,L2))(d:sS k2):Yu k F=bO (k2,L2):=by
 unfold Yu;rw[b];simp only[c,Wt];rw[c]at a;rw[a];simp only;rw[aA d]
def Cl(b:Wr k F=bO (k1,L1))(c:k1.base=(n:Int))(a:dJ (fun i=>qu F (i:Int)) (n+1) {k1 with last:=(Jl F n:Int)} L1 (Jl F n-n)=bO (k2,L2))(d:¬sS k2):Yu k F=bN:=by
 unfold Yu;rw[b];simp only[c,Wt];rw[c]at a;rw[a];simp only;rw[aB d]
def sE(b:Wr k F=bO (k1,L1))(c:k1.base=(n:Int))(a:dJ (fun i=>qu F (i:Int)) (n+1) {k1 with last:=(Jl F n:Int)} L1 (Jl F n-n)=bN):Yu k F=bN:=by
 unfold Yu;rw[b];simp only[c,Wt];rw[c]at a;rw[a]
end
def Pg:oV.length=32:=by simp[oV]
def xqr:Tryz.f81.body=bO (.seq Iy<|.seq XP<|.seq Iq<|.seq Ir<|.seq Iu<|.seq Iw Kg):=by kernel_rfl
def xo3:Iw= .region 8 [⟨bO 40,.move<|.tmp 0,89,"look.go:52",#[],bN⟩,⟨bO 41,.call ⟨.value<|.func 136,#[.tmp 5,.tmp 40],#[147,89]⟩,0,"look.go:52",#[⟨0,.data⟩],bN⟩].toArray bK:=by kernel_rfl
def ji{w w':Zy}(h:kE w w'):Nw w w':=by obtain⟨t,d,rfl⟩:=h;exact Nw.gL (xb.refl _ _) t d
def Ug{w w':Zy}(h:kE w w'):w'.heap.size=w.heap.size:=by obtain⟨t,d,rfl⟩:=h;rfl
def zxk{tv:Zv}{X:Nat->Option (Lk×KV)}{w w':Zy}{e:Ending}{t:Nat->Question->Nat}{d:Nat}:KE tv X w e (re w' t d)↔KE tv X w e w':=by
 constructor;rintro⟨h,c,a,b⟩;exact⟨xb.re h,c,a,b⟩;rintro⟨h,c,a,b⟩;exact⟨Nw.gL h t d,c,a,b⟩
def xmv{a:Act}{v0 h i j:Zv}(c:a.defers=[])(b:a.tmps.size=44)(d:At a 0 v0)(e:At a 3 h)(f:At a 4 i)(g:At a 5 j):tC v0 h i j a:=by
 obtain⟨⟨l⟩,X⟩:=a;simp only at c;subst c;simp only[jg]at b;unfold At at d e f g;simp only[q8]at d e f g;obtain _|⟨Y,l⟩:=l;simp at b;obtain _|⟨Z,l⟩:=l;simp at b;obtain _|⟨x2,l⟩:=l;simp at b;obtain _|⟨x3,l⟩:=l;simp at b;obtain _|⟨x4,l⟩:=l;simp at b;obtain _|⟨x5,l⟩:=l;simp at b;obtain _|⟨x6,l⟩:=l;simp at b;obtain _|⟨x7,l⟩:=l;simp at b;obtain _|⟨x8,l⟩:=l;simp at b;obtain _|⟨x9,l⟩:=l;simp at b;obtain _|⟨k,l⟩:=l;simp at b;obtain _|⟨m,l⟩:=l;simp at b;obtain _|⟨n,l⟩:=l;simp at b;obtain _|⟨o,l⟩:=l;simp at b;obtain _|⟨p,l⟩:=l;simp at b;obtain _|⟨q,l⟩:=l;simp at b;obtain _|⟨r,l⟩:=l;simp at b;obtain _|⟨s,l⟩:=l;simp at b;obtain _|⟨t,l⟩:=l;simp at b;obtain _|⟨v,l⟩:=l;simp at b;obtain _|⟨w,l⟩:=l;simp at b;obtain _|⟨x,l⟩:=l;simp at b;obtain _|⟨z,l⟩:=l;simp at b;obtain _|⟨B,l⟩:=l;simp at b;obtain _|⟨C,l⟩:=l;simp at b;obtain _|⟨D,l⟩:=l;simp at b;obtain _|⟨E,l⟩:=l;simp at b;obtain _|⟨F,l⟩:=l;simp at b;obtain _|⟨G,l⟩:=l;simp at b;obtain _|⟨H,l⟩:=l;simp at b;obtain _|⟨I,l⟩:=l;simp at b;obtain _|⟨J,l⟩:=l;simp at b;obtain _|⟨K,l⟩:=l;simp at b;obtain _|⟨L,l⟩:=l;simp at b;obtain _|⟨M,l⟩:=l;simp at b;obtain _|⟨N,l⟩:=l;simp at b;obtain _|⟨O,l⟩:=l;simp at b;obtain _|⟨Q,l⟩:=l;simp at b;obtain _|⟨R,l⟩:=l;simp at b;obtain _|⟨S,l⟩:=l;simp at b;obtain _|⟨T,l⟩:=l;simp at b;obtain _|⟨U,l⟩:=l;simp at b;obtain _|⟨V,l⟩:=l;simp at b;obtain _|⟨W,l⟩:=l;simp at b;obtain _|⟨y,l⟩:=l;rotate_left;simp at b;cases d;cases e;cases f;cases g;exact⟨_,_,_,_,_,_,_,_,_,_,_,_,_,_,_,_,_,_,_,_,_,_,_,_,_,_,_,_,_,_,_,_,_,_,_,_,_,_,_,_,rfl⟩
def zps{tv:Zv}{D:Nat}{d:Dk}{m mark:Zl}{tc op:Int}{w:Zy}(hd:Xg w D d)(bi:∀x,d.own D x->2<x)(hG:Wh tv w)(hT:dF w)(hm:m.length=32)(h0:0<=tc)(hc:tc<=1000000000000)(Q:∀i,(qu d.L i).length<=100000):
  CC bM 81 #[zo D,.agg<|iV m mark tc op] w (KE tv (fun mp=>Yu (Jp m mark tc op mp) d.L) w):=by
 have hQ:kT<|nJ bM funcs Tryz.f81<|KE tv (fun mp=>Yu (Jp m mark tc op mp) d.L) w:=AO fun e w t d=>zxk;have du:=hT.pos;have bh:∀x,d.own D x->x<w.heap.size:=fun x M=>Dk.bX hd M;refine CC.fA bQ lI (bZ rfl Tryz.func81 rfl).1 Tryz.func81 xqr ?_;rw[show Tryz.f81.ntmps=44 from rfl];refine Xn.go' bQ kZ lI hQ trivial fun w0 Po hE hN hX=>?_;have n0:=ji hE;have z0:=Ug hE;refine xm5 (m:=m) (mark:=mark) (tc:=tc) (op:=op) (v0:=zo D) fun a1 w1 bo MZ ci cj ck n1 z1 b3 b4=>hN.o _ _ ?_;have l:Nw w w1:=n0.trans n1;refine Xn.seq bQ lI trivial (xm6 (w:=w1) hm (hT.nw l) b3 bo MZ ci cj ck fun a2 w2 mp b bp sz2 cl cm cn co n2 d5 hb cf b9=>?_);have a:Nw w w2:=l.trans n2;have b2:=xmv bp sz2 cl cm cn co;refine Xn.go' bQ kZ lI hQ trivial fun cr dw s bs bx=>?_;have g:Nw w cr:=a.trans<|ji s;have B:¬d.own D b:=fun h=>by have:=bh _ h;have:=l.size;omega
 refine xiv (lo:=w.heap.size) (k:=Jp m mark tc op mp) b2 (Xa.nw b9<|ji s) (cf.nw<|ji s) (hd.but g fun _ _=>id) B (by have:=l.size;omega) (b3.nw<|n2.trans<|ji s) (hG.nw g) (hT.nw g) hm (by have:=Q 0;omega) (by have:=l.size;show _<=mp;omega) g.size rfl (fun a3 w3 j L1 b5 q E bf bj C ⟨n,I,hn⟩=>bs.o _ _ ?_) fun a3 w3 bq ce q=>bx.o _ _ _ (by simp) ⟨bq,?_⟩;have r:=WF E ⟨hm,Vj _,by show(0:Nat)<_;omega,Pg⟩;have ds:j.mp=mp\/True:= .inr trivial;have X:b≠j.mp:=fun e=>by obtain⟨es,c,h1⟩:=bj.blk;exact xx.cZ bf h1 e
 have d2:2<b:=by have:=l.size;omega
 have dt:2<j.mp:=by omega
 refine Xn.go' bQ kZ lI hQ trivial fun d7 dx S bt d0=>?_;refine xm7 b5 (Xa.nw bf<|ji S) fun a4 w4 b6 bc ca=>bt.o _ _ ?_;refine Xn.go' bQ kZ lI hQ trivial fun d8 dy T bu d1=>?_;have Z:=((((ji s).mono fun _ x=>x.elim).trans q).trans<|((ji S).mono fun _ x=>x.elim).trans bc).trans<|(ji T).mono fun _ x=>x.elim;have bz:=(hd.but a fun _ _=>id).but Z fun x M e=>B (by have e:x=b:=e;rw[<-e];exact M);refine PH (n:=n) b6 (Xa.nw ca<|ji T) bz B I (by omega) fun F w5 bd N cb=>bu.o _ _ ?_;have o:=Z.trans N;have Y:=((((ji S).mono fun _ x=>x.elim).trans bc).trans<|(ji T).mono fun _ x=>x.elim).trans N;have b0:=(hd.but a fun _ _=>id).but o fun x M e=>B (by have e:x=b:=e;rw[<-e];exact M);have bb:=(hG.nw a).but o (by show¬1=b;omega);have bw:=(hT.nw a).but o (by show¬2=b;omega);have bk:=bj.but Y fun e=>X e.symm;have z5:=(b4.nw n2).but o (by show¬_=b;omega);have d3:=PB d.L n;have cd:∀x,Wr (Jp m mark tc op j.mp) d.L=x->x=bO (j,L1):=fun x h=>h.symm.trans E;rw[xo3];refine Xn.seq bQ lI trivial (Xn.dB bQ lI ?_);obtain⟨ba,W,cq,V⟩:F.defers=[]/\F.tmps.size=44/\At F 0 (zo D)/\At F 5 (zo b):=by
  obtain⟨x1,x2,x6,x7,x8,x9,ct,cu,cv,cw,cx,cy,cz,c0,c1,c2,c3,c4,c5,c6,c7,c8,c9,da,db,dc,dd,de,df,dg,dh,di,dj,dk,dl,dm,dn,dp,dq,dr,rfl⟩:=bd;exact⟨rfl,rfl,rfl,rfl⟩
 refine Jc.value (val:=zo D) (w':=w5) bQ lI rfl (fun t d'=>⟨t,d',?_⟩) ?_
 ·show(bG F.eval _).run prog _=_
  have br:F.tmps[0]?=bO _:=cq;simp[bG,go_sem,br]
 have d6:At (F.put (bO 40)<|zo D) 5<|zo b:=V.put (by decide) _;have dv:At (F.put (bO 40)<|zo D) 40<|zo D:= .new W (by decide);have be:({j with last:=(Jl d.L n:Int)}:Lk).ok:=⟨r.1.m,r.1.ep,r.1.cnt,r.1.tag⟩;have U:=tI (n:=n+1) (cp:=Jl d.L n-n) be cb bk bw bb b0 (by omega) (by omega) (show j.mp≠1 by omega) (show j.mp≠2 by omega) X
  (fun x M h=>by
   have h4:=bi x h;have d4:=bh x h;rcases M with e|e|e|e
   omega;omega;rw[e]at h;exact B h;have e:x=j.mp:=e;omega)
  (by show j.base+1=_;omega) (by show(Jl d.L n:Int)+1=_;omega) (by omega) (by omega) Q
 refine Jc.mP (f:=136) (args:=#[zo b,zo D]) ba rfl (fun v=>?_) (fun v=>?_) NZ U ?_ ?_
 ·simp[bG,go_sem,resolve,W]
  exact(za.1 V).2
 ·have e5:F.tmps[5]?=bO _:=V
  refine Conc.listed_nil ?_;simp[bG,go_sem,resolve,W];simp[callFunc,go_sem,Tryz.func136];intro _ h;cases h
 intro v w6 K;refine Jc.nil bQ lI ?_;cases hlog:dJ (fun i=>qu d.L (i:Int)) (n+1) {j with last:=(Jl d.L n:Int)} L1 (Jl d.L n-n)with
 |none=>rw[hlog]at K;cases K.1
 |some p=>
  obtain⟨k2,L2⟩:=p;rw[hlog]at K;obtain⟨_,z,cc,cg⟩:=K;have b8:=ZK be _ hlog;have bl:=Cf _ hlog;have bg:k2.mp=j.mp:=b8.2.1;refine Xn.last' bQ kZ lI hQ fun cs dz y bv=>?_;have b7:tC (zo D) (zo w0.heap.size) (zo<|w0.heap.size+1) (zo b)<|(F.put (bO 40)<|zo D).put (bO 41) v:=by
   obtain⟨x1,x2,x6,x7,x8,x9,ct,cu,cv,cw,cx,cy,cz,c0,c1,c2,c3,c4,c5,c6,c7,c8,c9,da,db,dc,dd,de,df,dg,dh,di,dj,dk,dl,dm,dn,dp,dq,dr,rfl⟩:=bd;exact⟨_,_,_,_,_,_,_,_,_,_,_,_,_,_,_,_,_,_,_,_,_,_,_,_,_,_,_,_,_,_,_,_,_,_,_,_,_,_,_,_,rfl⟩
  have bm:∀x,x=b\/x=j.mp->x≠w0.heap.size+1:=fun x M e=>by
   rcases M with rfl|rfl;omega;obtain⟨es,c,h1⟩:=bk.blk;exact z5.cZ h1 e.symm
  have z6:=(z5.but z fun h=>bm _ h rfl).nw<|ji y;have bn:∀w',xb (fun x=>x=w0.heap.size+1) cs w'->Nw w w':=fun w' h=>by
   have G:xb (fun x=>x=b\/x=j.mp\/x=w0.heap.size+1) w2 w':=((o.mono fun _ h=> .inl h).trans<|z.mono fun _ h=>h.elim .inl fun h=> .inr (.inl h)).trans<|((ji y).mono fun _ h=>h.elim).trans<|h.mono fun _ h=> .inr (.inr h);refine⟨G.os.trans a.os,G.output.trans a.output,xz a.size G.size,fun i O _=>(G.block i (zn O a.size) fun h=>?_).trans<|a.block i O id⟩;rcases h with h|h|h<;>omega
  refine PJ (tv:=tv) (R:=KE tv (fun mp=>Yu (Jp m mark tc op mp) d.L) w) b7 (Xa.nw cc<|ji y) z6 ((bb.but z<|by omega).nw<|ji y) (by omega) (by have:=r.2;show 0<=k2.tc;rw[bl];show 0<=j.tc;rw[this];exact h0) (by have:=r.2;show k2.tc<=_;rw[bl];show j.tc<=_;rw[this];exact hc) bv (fun w' he H=>?_) fun w' he H=>?_;refine⟨bn w' H,j.mp,C,?_⟩;simp only;rw[sL (k:=Jp m mark tc op j.mp) E I hlog he];refine⟨rfl,bg,?_⟩;refine(Xd.nw cg<|ji y).but H fun e=>bm _ (.inr rfl) e;refine⟨bn w' H,j.mp,C,?_⟩;simp only;rw[Cl (k:=Jp m mark tc op j.mp) E I hlog he];trivial
 intro ch w6 K;cases hlog:dJ (fun i=>qu d.L (i:Int)) (n+1) {j with last:=(Jl d.L n:Int)} L1 (Jl d.L n-n)with
 |some p=>obtain⟨k2,L2⟩:=p;rw[hlog]at K;cases K.1
 |none=>
  rw[hlog]at K;obtain⟨he,z⟩:=K;cases he;refine⟨ba,?_,j.mp,C,?_⟩;have G:xb (fun x=>x=b\/x=j.mp) w2 w6:=(o.mono fun _ h=> .inl h).trans z;refine⟨G.os.trans a.os,G.output.trans a.output,xz a.size G.size,fun i O _=>(G.block i (zn O a.size) fun h=>?_).trans<|a.block i O id⟩;rcases h with h|h<;>omega
  simp only;rw[sE (k:=Jp m mark tc op j.mp) E I hlog];trivial
 refine⟨?_,mp,by have:=l.size;omega,?_⟩;refine⟨q.os.trans g.os,q.output.trans g.output,xz g.size q.size,fun i O _=>(q.block i (zn O g.size) fun h=>?_).trans<|g.block i O id⟩;have h:=h;have:=l.size;omega;have J:Yu (Jp m mark tc op mp) d.L=bN:=by
  unfold Yu;rw[show Wr (Jp m mark tc op mp) d.L=bN from ce mp]
 simp only;rw[J];trivial
end
section
variable [pn:A.Pn]
attribute [local go_sem] xe zv
noncomputable def jU:=Qf Tryz.f40.body
noncomputable def Ip:=Qa jU
noncomputable def pM:=Qa<|Qb jU
noncomputable def Kh:=Qb<|Qb jU
noncomputable def nI:Array aD:=match pM with
 | .region _ ops _=>ops
 |_=>#[]
def xo1:pM= .region 1 nI bL:=by kernel_rfl
def ZM:nI.size=11:=by kernel_rfl
def xuo:TG nI=bL:=by kernel_rfl
def oC:¬Mc bM 40:=xO (by decide) (by decide) Tryz.func40
structure nS(w:Zy)(B:Nat)(v2:Zv)(r:Sr)(mp b:Nat)(k:Lk)(L:KV)(l:Array Bool)(a:Act)(w':Zy):Prop where
 df:a.defers=[]
 sz:a.tmps.size=45
 nw:Nw w w'
 s0:At a 0<|zo B
 s2:At a 2 v2
 T:Tb [(0,4,zo B),(1,5,zo B),(2,6,zk B 2),(3,7,zo r.D),(4,8,zo B),(5,9,zo B),(6,10,zk B 3),(7,11,.agg<|iV r.m r.mark r.cnt r.op)] l a
 l8:Li l 8<|At a 12 (.agg<|k.cells (Xz k.m k.ep)<|Jm k.m k.ep)/\w.heap.size<=mp/\Yu (Jp r.m r.mark r.cnt r.op mp) r.d.L=bO (k,L)/\k.mp=mp/\Xd w' mp L
 l9:Li l 9<|At a 3 (zo b)/\w.heap.size<=b/\(l[10]?=bO bK->xx w' b pO 147)
 l10:Li l 10<|(l[8]?=bO bL/\l[9]?=bO bL)/\Xa w' b k
section
variable {cv tv:Value} {w:World} {B:Nat} {v2:Value} {r:Sr} {mp b:Nat} {k:Lk} {L:KV} {l:Array Bool} {a:Act} {w1:World} {Q:Exit->Act->World->Prop}
def nS.mv(J:nS w B v2 r mp b k L l a w1){i s:Nat}{v:Zv}(d:i<8)(e:s=i+4)(c:∀x∈[(0,4,zo B),(1,5,zo B),(2,6,zk B 2),(3,7,zo r.D),(4,8,zo B),(5,9,zo B),(6,10,zk B 3),(7,11,.agg<|iV r.m r.mark r.cnt r.op)],(x.2.1≠s/\x.1≠i)\/x=(i,s,v)):∃mp b k L,nS w B v2 r mp b k L (l.setIfInBounds i bL) (a.put (bO s) v) w1:=
 ⟨mp,b,k,L,J.df,AP J.sz,J.nw,J.s0.put (by omega) _,J.s2.put (by omega) _,J.T.put J.sz (by omega) c,J.l8.next (by omega) fun x=>⟨x.1.put (by omega) _,x.2⟩,J.l9.next (by omega) fun x=>⟨x.1.put (by omega) _,x.2.1,fun h=>x.2.2<|JM h<|by omega⟩,J.l10.next (by omega) fun x=>⟨⟨Vo x.1.1,Vo x.1.2⟩,x.2⟩⟩
def tQ(w:Zy)(B:Nat)(v2:Zv)(r:Sr)(l:Array Bool)(a:Act)(w1:Zy)(Q:Exit->Act->Zy->Prop)(i:Nat):Prop:=∀o:aD,l.size=nI.size->nI[i]?=bO o->l[i]?=bO bK->(∀e∈o.after,Region.binds .any e=bL->l[e.on]?=bO bL)->oX bM 40 nI Q i (fun a w1=>∃mp b k L,nS w B v2 r mp b k L (l.setIfInBounds i bL) a w1) a w1
def xux(J:nS w B v2 r mp b k L l a w1):tQ w B v2 r l a w1 Q 0:=fun o g c f hd=>by
 have d:=c;simp[nI,pM,jU,Tryz.f40,Qf,Qa,Qb]at c;subst c;have e0:a.tmps[0]?=bO _:=J.s0;refine oX.value (val:=zo B) (w':=w1) bQ oC d rfl (fun t e=>⟨t,e,?_⟩) (J.mv (by decide) rfl<|by simp);show(bG a.eval _).run prog (re w1 t e)=_;simp[bG,go_sem,e0]
def xu1(J:nS w B v2 r mp b k L l a w1):tQ w B v2 r l a w1 Q 4:=fun o g c f hd=>by
 have d:=c;simp[nI,pM,jU,Tryz.f40,Qf,Qa,Qb]at c;subst c;have e0:a.tmps[0]?=bO _:=J.s0;refine oX.value (val:=zo B) (w':=w1) bQ oC d rfl (fun t e=>⟨t,e,?_⟩) (J.mv (by decide) rfl<|by simp);show(bG a.eval _).run prog (re w1 t e)=_;simp[bG,go_sem,e0]
def xuy(J:nS w B v2 r mp b k L l a w1):tQ w B v2 r l a w1 Q 1:=fun o g c f hd=>by
 have d:=c;simp[nI,pM,jU,Tryz.f40,Qf,Qa,Qb]at c;subst c;have e0:a.tmps[4]?=bO _:=J.T (0,4,zo B) (by simp)<|hd ⟨0,.data⟩ (by simp) rfl;refine oX.value (val:=zo B) (w':=w1) bQ oC d rfl (fun t e=>⟨t,e,?_⟩) (J.mv (by decide) rfl<|by simp);show(bG a.eval _).run prog (re w1 t e)=_;simp[bG,go_sem,e0]
def xu2(J:nS w B v2 r mp b k L l a w1):tQ w B v2 r l a w1 Q 5:=fun o g c f hd=>by
 have d:=c;simp[nI,pM,jU,Tryz.f40,Qf,Qa,Qb]at c;subst c;have e0:a.tmps[8]?=bO _:=J.T (4,8,zo B) (by simp)<|hd ⟨4,.data⟩ (by simp) rfl;refine oX.value (val:=zo B) (w':=w1) bQ oC d rfl (fun t e=>⟨t,e,?_⟩) (J.mv (by decide) rfl<|by simp);show(bG a.eval _).run prog (re w1 t e)=_;simp[bG,go_sem,e0]
def xuz(J:nS w B v2 r mp b k L l a w1):tQ w B v2 r l a w1 Q 2:=fun o g c f hd=>by
 have d:=c;simp[nI,pM,jU,Tryz.f40,Qf,Qa,Qb]at c;subst c;have e0:a.tmps[5]?=bO _:=J.T (1,5,zo B) (by simp)<|hd ⟨1,.data⟩ (by simp) rfl;refine oX.value (val:=zk B 2) (w':=w1) bQ oC d rfl (fun t e=>⟨t,e,?_⟩) (J.mv (by decide) rfl<|by simp);show(bG a.eval _).run prog (re w1 t e)=_;simp[bG,go_sem,e0]
def xu3(J:nS w B v2 r mp b k L l a w1):tQ w B v2 r l a w1 Q 6:=fun o g c f hd=>by
 have d:=c;simp[nI,pM,jU,Tryz.f40,Qf,Qa,Qb]at c;subst c;have e0:a.tmps[9]?=bO _:=J.T (5,9,zo B) (by simp)<|hd ⟨5,.data⟩ (by simp) rfl;refine oX.value (val:=zk B 3) (w':=w1) bQ oC d rfl (fun t e=>⟨t,e,?_⟩) (J.mv (by decide) rfl<|by simp);show(bG a.eval _).run prog (re w1 t e)=_;simp[bG,go_sem,e0]
def xu0(g:xx w B r.cells 94)(J:nS w B v2 r mp b k L l a w1):tQ w B v2 r l a w1 Q 3:=fun o i d h hd=>by
 have e:=d;simp[nI,pM,jU,Tryz.f40,Qf,Qa,Qb]at d;subst d;have e0:a.tmps[6]?=bO _:=J.T (2,6,zk B 2) (by simp)<|hd ⟨2,.data⟩ (by simp) rfl;refine oX.value (val:=zo r.D) (w':=w1) bQ oC e rfl (fun t c=>⟨t,c,?_⟩) (J.mv (by decide) rfl<|by simp);show(bG a.eval _).run prog (re w1 t c)=_;have f:(re w1 t c).cell? (zq B 2)=bO (zo r.D):=(g.nw J.nw).cell 2 rfl;simp[bG,go_sem,e0,f]
def xu4(n:xx w B r.cells 94)(J:nS w B v2 r mp b k L l a w1):tQ w B v2 r l a w1 Q 7:=fun o q e p hd=>by
 have f:=e;simp[nI,pM,jU,Tryz.f40,Qf,Qa,Qb]at e;subst e;have e0:a.tmps[10]?=bO _:=J.T (6,10,zk B 3) (by simp)<|hd ⟨6,.data⟩ (by simp) rfl;refine oX.value (val:= .agg (iV r.m r.mark r.cnt r.op)) (w':=w1) bQ oC f rfl (fun t d=>⟨t,d,?_⟩) (J.mv (by decide) rfl<|by simp);show(bG a.eval _).run prog (re w1 t d)=_;have c:=n.nw J.nw;have g:(re w1 t d).cell? (zq B 3)=bO (zs r.m):=c.cell 3 rfl;have h:(re w1 t d).cell? (zq B 4)=bO (zi r.cnt):=c.cell 4 rfl;have i:(re w1 t d).cell? (zq B 5)=bO (zs r.mark):=c.cell 5 rfl;have j:(re w1 t d).cell? (zq B 6)=bO (zi r.op):=c.cell 6 rfl;simp[bG,go_sem,e0,g,h,i,j,iV]
def xu5(I:Xg w r.D r.d)(n:∀x,r.d.own r.D x->2<x)(K:Wh tv w)(M:dF w)(R:r.m.length=32)(U:r.cnt<=1000000000000)(j:∀i,(qu r.d.L i).length<=100000)
  (N:∀a' w' mp,a'.defers=[]->Nw w w'->w.heap.size<=mp->Yu (Jp r.m r.mark r.cnt r.op mp) r.d.L=bN->Q (.panic [{v:=tv,recovered:=bK}]) a' w')(J:nS w B v2 r mp b k L l a w1):tQ w B v2 r l a w1 Q 8:=fun o V y O hd=>by
 have z:=y;simp[nI,pM,jU,Tryz.f40,Qf,Qa,Qb]at y;subst y;have E:¬l[10]?=bO bL:=fun h=>by have:=(J.l10 h).1.1;rw[O]at this;cases this
 have H:a.tmps[7]?=bO _:=J.T (3,7,zo r.D) (by simp)<|hd ⟨3,.data⟩ (by simp) rfl;have s:a.tmps[11]?=bO _:=J.T (7,11,.agg<|iV r.m r.mark r.cnt r.op) (by simp)<|hd ⟨7,.data⟩ (by simp) rfl;refine oX.call bQ oC J.df z rfl (f:=81) (args:=#[zo r.D,.agg<|iV r.m r.mark r.cnt r.op]) (fun v=>?_) (bZ rfl Tryz.func81 rfl) (zps (tv:=tv) (w:=w1) (I.but J.nw fun _ _=>id) n (K.nw J.nw) (M.nw J.nw) R (by omega) (by omega) j) ?_ ?_
 ·show(bG a.eval _).run prog v=_
  simp[bG,go_sem,resolve,H,s]
 ·rintro v S ⟨q,c,g,h⟩
  cases hq:Yu (Jp r.m r.mark r.cnt r.op c) r.d.L with
  |none=>simp only[hq]at h;cases h
  |some p=>
   obtain⟨G,F⟩:=p;simp only[hq]at h;obtain⟨e,t,C⟩:=h;cases e;exact⟨c,b,G,F,⟨J.df,AP J.sz,J.nw.trans q,(J.s0.put (by decide) _),(J.s2.put (by decide) _),J.T.put J.sz (by decide)<|by simp,.now ⟨.new J.sz<|by decide,xz J.nw.size g,hq,t,C⟩,J.l9.next (by decide) fun x=>⟨(x.1.put (by decide) _),x.2.1,fun h=>(x.2.2<|JM h<|by decide).nw q⟩,fun h=>absurd ((EH h).resolve_left<|by decide) E⟩⟩
 rintro ch S ⟨q,c,g,h⟩;cases hq:Yu (Jp r.m r.mark r.cnt r.op c) r.d.L with
 |none=>
  simp only[hq]at h;cases h;exact N _ _ c J.df (J.nw.trans q) (xz J.nw.size g) hq
 |some p=>obtain⟨G,F⟩:=p;simp only[hq]at h;cases h.1
def xu6(J:nS w B v2 r mp b k L l a w1):tQ w B v2 r l a w1 Q 9:=fun o i c g hd=>by
 have d:=c;simp[nI,pM,jU,Tryz.f40,Qf,Qa,Qb]at c;subst c;have e:¬l[10]?=bO bL:=fun h=>by have:=(J.l10 h).1.2;rw[g]at this;cases this
 refine oX.value (val:=zo w1.heap.size) (w':=w1.alloc<|.cells pO 147) bQ oC d rfl (fun t f=>⟨t,f,?_⟩) ⟨mp,w1.heap.size,k,L,⟨J.df,AP J.sz,J.nw.trans<|Nw.alloc _ _,(J.s0.put (by decide) _),(J.s2.put (by decide) _),J.T.put J.sz (by decide)<|by simp,J.l8.next (by decide) fun x=>⟨(x.1.put (by decide) _),x.2.1,x.2.2.1,x.c.1,x.d.nw<|Nw.alloc _ _⟩,.now ⟨.new J.sz<|by decide,J.nw.size,fun _=>xx.new _ _ _⟩,fun h=>absurd ((EH h).resolve_left<|by decide) e⟩⟩;show(bG a.eval _).run prog (re w1 t f)=_;simp[bG,go_sem];exact⟨rfl,rfl⟩
def xr6(J:nS w B v2 r mp b k L l a w1):tQ w B v2 r l a w1 Q 10:=fun o K n I hd=>by
 have p:=n;simp[nI,pM,jU,Tryz.f40,Qf,Qa,Qb]at n;subst n;have y:l[8]?=bO bL:=hd ⟨8,.data⟩ (by simp) rfl;have z:l[9]?=bO bL:=hd ⟨9,.data⟩ (by simp) rfl;have g:=(J.l8 y).1.ev;obtain⟨E,M,f⟩:=J.l9 z;have F:=E.ev;have D:=f I;obtain⟨N,R,H,d,q⟩:=D.store (cs':=k.cells (Xz k.m k.ep)<|Jm k.m k.ep) (ty:=147) rfl Gr (by simp[Lk.cells,Value.oneCell']);have j:∀{mp L},Xd w1 mp L->¬mp=b:=fun h e=>by obtain⟨O,c,G⟩:=h.blk;exact D.cZ G e.symm
 have s:Nw w N:=⟨d.os.trans J.nw.os,d.output.trans J.nw.output,xz J.nw.size d.size,fun i C _=>(d.block i (zn C J.nw.size)<|by show¬i=b;omega).trans<|J.nw.block i C id⟩;refine oX.skip bQ oC p rfl (fun t v=>⟨t,v,Lp rfl F g<|q t v⟩) ⟨mp,b,k,L,⟨J.df,J.sz,s,J.s0,J.s2,J.T.skip<|by simp,J.l8.next (by decide) fun x=>⟨x.1,x.2.1,x.2.2.1,x.c.1,x.d.but d<|j x.d⟩,J.l9.next (by decide) fun x=>⟨x.1,x.2.1,fun h=>absurd h<|by rw[cT K<|by rw[ZM];decide];simp⟩,.now ⟨⟨Vo y,Vo z⟩,H⟩⟩⟩
def xns(t:xx w B r.cells 94)(C:Xg w r.D r.d)(j:∀x,r.d.own r.D x->2<x)(E:Wh tv w)(G:dF w)(M:r.m.length=32)(K:r.cnt<=1000000000000)(h:∀i,(qu r.d.L i).length<=100000)
  (n:a.defers=[])(s:a.tmps.size=45)(s0:At a 0<|zo B)(s2:At a 2 v2)
  (H:∀a' w' mp,a'.defers=[]->Nw w w'->w.heap.size<=mp->Yu (Jp r.m r.mark r.cnt r.op mp) r.d.L=bN->Q (.panic [{v:=tv,recovered:=bK}]) a' w')
  (F:∀a' w' mp b k L,a'.defers=[]->a'.tmps.size=45->At a' 0 (zo B)->At a' 2 v2->At a' 3 (zo b)->Nw w w'->w.heap.size<=mp->w.heap.size<=b->Yu (Jp r.m r.mark r.cnt r.op mp) r.d.L=bO (k,L)->k.mp=mp->Xd w' mp L->Xa w' b k->Q .normal a' w'):Xn bM 40 pM Q a w:=by
 rw[xo1];refine Xn.inv bQ oC mixed xuo (fun l a w1=>∃mp b k L,nS w B v2 r mp b k L l a w1) ⟨0,0,Jp [] [] 0 0 0,[],n,s,xb.refl _ _,s0,s2,.none,.none,.none,.none⟩ ?_ ?_;rintro l a' w' ⟨mp,b,k,L,J⟩ g;have c:∀i,i<11->l[i]?=bO bL:=fun i y=>g i (by rw[ZM];exact y);obtain⟨z,I,_⟩:=J.l9 (c 9<|by decide);obtain⟨_,q,N,p,e⟩:=J.l8 (c 8<|by decide);exact F a' w' mp b k L J.df J.sz J.s0 J.s2 z J.nw q I N p e (J.l10<|c 10<|by decide).2;rintro l a' w' i o ⟨mp,b,k,L,J⟩ e f c hd;have y:i<11:=by have:=(za.1 f).1;rwa[ZM]at this
 have:i=0\/i=1\/i=2\/i=3\/i=4\/i=5\/i=6\/i=7\/i=8\/i=9\/i=10:=by omega
 rcases this with rfl|rfl|rfl|rfl|rfl|rfl|rfl|rfl|rfl|rfl|rfl;exact xux J o e f c hd;exact xuy J o e f c hd;exact xuz J o e f c hd;exact xu0 t J o e f c hd;exact xu1 J o e f c hd;exact xu2 J o e f c hd;exact xu3 J o e f c hd;exact xu4 t J o e f c hd;exact xu5 C j E G M K h H J o e f c hd;exact xu6 J o e f c hd;exact xr6 J o e f c hd
end
def Gn(B:Nat)(v2:Zv)(b:Nat)(a:Act):Prop:=∃x1 x4 x5 x6 x7 x8 x9 x10 x11 x12 x13 x14 x15 x16 x17 x18 x19 x20 x21 x22 x23 x24 x25 x26 x27 x28 x29 x30 x31 x32 x33 x34 x35 x36 x37 x38 x39 x40 x41 x42 x43 x44,a=⟨#[zo B,x1,v2,zo b,x4,x5,x6,x7,x8,x9,x10,x11,x12,x13,x14,x15,x16,x17,x18,x19,x20,x21,x22,x23,x24,x25,x26,x27,x28,x29,x30,x31,x32,x33,x34,x35,x36,x37,x38,x39,x40,x41,x42,x43,x44],[]⟩
def xmu{a:Act}{B b:Nat}{v2:Zv}(d:a.defers=[])(c:a.tmps.size=45)(e:At a 0<|zo B)(f:At a 2 v2)(g:At a 3<|zo b):Gn B v2 b a:=by
 obtain⟨⟨l⟩,W⟩:=a;simp only at d;subst d;simp only[jg]at c;unfold At at e f g;simp only[q8]at e f g;obtain _|⟨X,l⟩:=l;simp at c;obtain _|⟨Y,l⟩:=l;simp at c;obtain _|⟨Z,l⟩:=l;simp at c;obtain _|⟨x3,l⟩:=l;simp at c;obtain _|⟨x4,l⟩:=l;simp at c;obtain _|⟨x5,l⟩:=l;simp at c;obtain _|⟨x6,l⟩:=l;simp at c;obtain _|⟨x7,l⟩:=l;simp at c;obtain _|⟨x8,l⟩:=l;simp at c;obtain _|⟨x9,l⟩:=l;simp at c;obtain _|⟨h,l⟩:=l;simp at c;obtain _|⟨i,l⟩:=l;simp at c;obtain _|⟨j,l⟩:=l;simp at c;obtain _|⟨k,l⟩:=l;simp at c;obtain _|⟨m,l⟩:=l;simp at c;obtain _|⟨n,l⟩:=l;simp at c;obtain _|⟨o,l⟩:=l;simp at c;obtain _|⟨p,l⟩:=l;simp at c;obtain _|⟨q,l⟩:=l;simp at c;obtain _|⟨r,l⟩:=l;simp at c;obtain _|⟨s,l⟩:=l;simp at c;obtain _|⟨t,l⟩:=l;simp at c;obtain _|⟨v,l⟩:=l;simp at c;obtain _|⟨w,l⟩:=l;simp at c;obtain _|⟨x,l⟩:=l;simp at c;obtain _|⟨z,l⟩:=l;simp at c;obtain _|⟨C,l⟩:=l;simp at c;obtain _|⟨D,l⟩:=l;simp at c;obtain _|⟨E,l⟩:=l;simp at c;obtain _|⟨F,l⟩:=l;simp at c;obtain _|⟨G,l⟩:=l;simp at c;obtain _|⟨H,l⟩:=l;simp at c;obtain _|⟨I,l⟩:=l;simp at c;obtain _|⟨J,l⟩:=l;simp at c;obtain _|⟨K,l⟩:=l;simp at c;obtain _|⟨L,l⟩:=l;simp at c;obtain _|⟨M,l⟩:=l;simp at c;obtain _|⟨N,l⟩:=l;simp at c;obtain _|⟨O,l⟩:=l;simp at c;obtain _|⟨Q,l⟩:=l;simp at c;obtain _|⟨R,l⟩:=l;simp at c;obtain _|⟨S,l⟩:=l;simp at c;obtain _|⟨T,l⟩:=l;simp at c;obtain _|⟨U,l⟩:=l;simp at c;obtain _|⟨V,l⟩:=l;simp at c;obtain _|⟨y,l⟩:=l;rotate_left;simp at c;cases e;cases f;cases g;exact⟨_,_,_,_,_,_,_,_,_,_,_,_,_,_,_,_,_,_,_,_,_,_,_,_,_,_,_,_,_,_,_,_,_,_,_,_,_,_,_,_,_,_,rfl⟩
def V4(S:Nat)(k:Lk)(L:KV):Jo:=⟨S,k.mp,L,.slice bN 0 0,[],k.ep,k.base,k.last,k.named,0⟩
def xne(k:Lk)(d:Dk):(Xi k d).2.1.mp=k.mp/\(Xi k d).2.1.m=k.m/\(Xi k d).2.1.ep=k.ep:=by
 unfold Xi;split;split;exact⟨rfl,rfl,rfl⟩;exact⟨rfl,rfl,rfl⟩;split;split;exact⟨rfl,rfl,rfl⟩;exact⟨rfl,rfl,rfl⟩;exact⟨rfl,rfl,rfl⟩
def QX(cv tv:Zv)(B:Nat)(r:Sr)(w:Zy)(e:Ending)(w':Zy):Prop:=∃mp,w.heap.size<=mp/\match Yu (Jp r.m r.mark r.cnt r.op mp) r.d.L with
 |none=>e=eF tv/\jt B r w r w'
 |some (k,L)=>((Xi k r.d).1=bL/\e= .returned (zi 0)/\∃S,jt B r w {r with cnt:=k.cnt,mark:=k.tag,d:=(Xi k r.d).2.2,sn:=bO<|V4 S (Xi k r.d).2.1 L} w')\/((Xi k r.d).1=bK/\e=eF cv/\jt B r w {r with cnt:=k.cnt,mark:=k.tag,d:=(Xi k r.d).2.2} w')
def xry{B b:Nat}{r:Sr}{w0 w F f:Zy}{k:Lk}{L:KV}{k':Lk}{d':Dk}(o:Jq w0 B r)(z:r.sn=bN)(l:Nw w0 w)(hb:w0.heap.size<=b)(V:w0.heap.size<=k'.mp)(X:Xd w k'.mp L)(J:b≠k'.mp)
  (C:F=(w.setCell (zq B 4)<|zi k.cnt).setCell (zq B 5) (zs k.tag))(j:xb (fun y=>y=b\/r.d.own r.D y) F f)(p:Xg f r.D d')(ho:∀y,d'.own r.D y->r.d.own r.D y):
  jt B r w0 {r with cnt:=k.cnt,mark:=k.tag,d:=d'} f/\jt B r w0 {r with cnt:=k.cnt,mark:=k.tag,d:=d',sn:=bO<|V4 f.heap.size k' L} ((f.alloc<|.cells (V4 f.heap.size k' L).cells 152).setCell (zq B 7)<|zo f.heap.size):=by
 have t:=fun x (g:r.d.own r.D x)=>Dk.bX o.disk g;have U:=o.blk.lt;have T:=o.blk.nw l;have H:xb (·=B) w F:=by rw[C];exact(xb.set w (zq B 4) _).trans<|xb.set _ (zq B 5) _
 have Q:xx F B ({r with cnt:=k.cnt,mark:=k.tag,d:=d'}:Sr).cells 94:=by
  have R:=(T.set 4<|zi k.cnt).set 5<|zs k.tag;rw[C];exact R
 have K:=Q.but j (by
  rintro(e|e);omega;exact o.fB e)
 have W:=l.size;have Z:=H.size;have h3:=j.size;have m:∀G,xb (fun y=>y=B\/f.heap.size<=y) f G->xb (r.own B) w0 G:=fun G S=>by
  have E:xb (fun y=>y=B\/y=b\/r.d.own r.D y\/f.heap.size<=y) w G:=((H.mono fun _ h=> .inl h).trans<|j.mono fun _ h=>h.elim (fun e=> .inr (.inl e)) fun e=> .inr (.inr<|.inl e)).trans<|S.mono fun _ h=>h.elim .inl fun e=> .inr (.inr<|.inr e);refine⟨E.os.trans l.os,E.output.trans l.output,xz l.size E.size,fun i N g=>(E.block i (zn N l.size) fun h=>?_).trans<|l.block i N id⟩;rcases h with e|e|e|e
  exact g<|.inl e;omega;exact g<|.inr<|.inl e;omega
 refine⟨⟨m f<|xb.refl _ _,⟨K,p,fun s e=>by rw[show({r with cnt:=k.cnt,mark:=k.tag,d:=d'}:Sr).sn=r.sn from rfl,z]at e;cases e⟩,fun x g=>?_⟩,?_⟩;rcases g with e|e|⟨s,e,_⟩
 exact .inl<|.inl e;exact .inl<|.inr<|.inl<|ho x e;rw[show({r with cnt:=k.cnt,mark:=k.tag,d:=d'}:Sr).sn=r.sn from rfl,z]at e;cases e;have I:xb (fun y=>y=B\/f.heap.size<=y) f<|(f.alloc<|.cells (V4 f.heap.size k' L).cells 152).setCell (zq B 7)<|zo f.heap.size:=((Nw.alloc f _).mono fun _ h=>h.elim).trans<|(xb.set _ _ _).mono fun _ h=> .inl h;have q:¬r.d.own r.D k'.mp:=fun h=>by have:=t _ h;omega
 have v:=(X.but H<|by show¬k'.mp=B;omega).but j (by
  rintro(e|e);exact J e.symm;exact q e)
 have O:=v.lt;refine⟨m _ I,⟨?_,?_,fun s e=>?_⟩,fun x g=>?_⟩;exact(K.alloc _).set 7 _;exact p.but I fun x g=>by
  rintro(e|e);exact o.fB (by rw[<-e];exact ho x g);have:=t x<|ho x g;omega
 cases e;refine⟨⟨?_,?_,?_⟩,?_⟩;exact(xx.new f _ 152).other (by show f.heap.size≠B;omega) _;exact v.but I (by
  rintro(e|e);have e:=e;omega;have e:=e;omega)
 exact Vl _ _ _ _;intro e;have e:k'.mp=d'.M:=e;exact q<|ho _<|.inr<|.inl e;rcases g with e|e|⟨s,e,g⟩
 exact .inl<|.inl e;exact .inl<|.inr<|.inl<|ho x e;cases e;rcases g with e|e|⟨a,n,c,Y,e⟩
 have e:x=f.heap.size:=e;exact .inr (by omega);have e:x=k'.mp:=e;exact .inr (by omega);cases Y
def RE{cv tv v2:Zv}{B b:Nat}{r:Sr}{w0 w:Zy}{k:Lk}{L:KV}{R:Ending->Zy->Prop}{Po:Exit->Act->Zy->Prop}{a:Act}(ha:Gn B v2 b a)(p:Jq w0 B r)(G:r.sn=bN)(K:Nw w0 w)(hb:w0.heap.size<=b)(bc:w0.heap.size<=k.mp)
  (J:Xa w b k)(hs:Xd w k.mp L)(F:fV B r)(hG:iA cv tv w)(hw:k.dD=bL->0<=k.whole/\k.whole<=((qu r.d.L k.last).length:Nat))(bb:-1000000000000<=k.last/\k.last<=1000000000000)
  (z:Hid<|∀e a' w',nJ bM funcs Tryz.f40 R e a' w'->Po e a' w')
  (W:Hid<|∀w' S,(Xi k r.d).1=bL->jt B r w0 {r with cnt:=k.cnt,mark:=k.tag,d:=(Xi k r.d).2.2,sn:=bO<|V4 S (Xi k r.d).2.1 L} w'->R (.returned<|zi 0) w')
  (V:Hid<|∀w',(Xi k r.d).1=bK->jt B r w0 {r with cnt:=k.cnt,mark:=k.tag,d:=(Xi k r.d).2.2} w'->R (eF cv) w'):
  Kh.wp prog Po a w:=by
 obtain⟨x1,x4,x5,x6,x7,x8,x9,bi,bj,bk,bl,bm,bn,bo,bp,bq,br,bs,bt,bu,bv,bw,bx,bz,b0,b1,b2,b3,b4,b5,b6,b7,b8,b9,ca,cb,cc,cd,ce,cf,cg,ch,rfl⟩:=ha;have o:=zl<|p.blk.nw K;have HD:=zl<|p.disk.but K fun _ _=>id;have HL:=zl J;have HS:=zl hs;have HG:=zl hG;have N:=zl F;have M:=zl p;have HN:=zl K;have m:=zl G;have HW:=zl hw;have be:=p.blk.lt;have Y:¬b=B:=by omega
 have U:¬B=b:=by omega
 have Z:Hid<|¬r.d.own r.D b:=fun h=>by have:=Dk.bX p.disk h;omega
 have c2:w.cell? (zq B 2)=bO (zo r.D):=o.o.cell 2 rfl;have c4:w.cell? (zq B 4)=bO (zi r.cnt):=o.o.cell 4 rfl;have c5:w.cell? (zq B 5)=bO (zs r.mark):=o.o.cell 5 rfl;have f4:=o.o.bT 4;have f5:=o.o.bT 5;have l8:w.cell? (zq b 8)=bO (zi k.cnt):=J.cell 8 rfl;have l9:w.cell? (zq b 9)=bO (zs k.tag):=J.cell 9 rfl;clear p K J hs F hG G hw
 conv=>arg 2;whnf
 go_wp2
 obtain⟨H,g⟩:∃H,H=(w.setCell (zq B 4)<|zi k.cnt).setCell (zq B 5) (zs k.tag):=⟨_,rfl⟩;rw[<-g];have O:=zl g;have l:Hid (xb (·=B) w H):=by show xb _ _ _;rw[g];exact(xb.set w (zq B 4) _).trans<|xb.set _ (zq B 5) _
 have X2:Hid<|xx H B ({r with cnt:=k.cnt,mark:=k.tag}:Sr).cells 94:=by
  have T:=(o.o.set 4<|zi k.cnt).set 5<|zs k.tag;show xx _ _ _ _;rw[g];exact T
 have L2:Hid<|Xa H b k:=xx.but HL.o l.o Y;have D2:=zl (HD.o.but l.o fun x hx e=>M.o.fB<|by have e:x=B:=e;rw[<-e];exact hx);have X:b≠0:=by omega
 have C2:=zl (HG.o.FT.but l.o<|by have:=N.o.own B<|.inl rfl;show¬0=B;omega);clear g c2 c4 c5 f4 f5 l8 l9;refine(xnf b k r.D r.d _ L2.o D2.o N.o.FU N.o.few C2.o Z.o X HW.o bb).mono ?_;rintro e i ⟨I,n,f,C,E⟩;have j:=xne k r.d;have ba:b≠k.mp:=fun e=>by obtain⟨es,c,T⟩:=HS.o.blk;exact xx.cZ HL.o T e
 have Q:=xry M.o m.o HN.o hb (by rw[j.1];exact bc) (by rw[j.1];exact HS.o) (by rw[j.1];exact ba) O.o n C E;cases hm:(Xi k r.d).1 with
 |false=>
  rw[hm]at I;subst I;refine z.o _ _ _ ⟨rfl,V.o _ hm Q.1⟩
 |true=>
  rw[hm]at I;subst I;have y:=zl (X2.o.but n (by
   rintro(e|e);exact U e;exact M.o.fB e))
  have s:=Q.2;generalize(Xi k r.d).2.1=k' at*;have q:Hid<|∀S,S=i.heap.size->jt B r w0 {r with cnt:=k.cnt,mark:=k.tag,d:=(Xi k r.d).2.2,sn:=bO<|V4 S k' L} ((i.alloc<|.cells (V4 S k' L).cells 152).setCell (zq B 7)<|zo S):=fun S e=>by subst e;exact s
  have HM:=zl hm;have d7:i.cell? (zq B 7)=bO (.pointer bN):=by
   have:=y.o.cell 7 (v:=Sr.iJ _) rfl;rw[this];simp[Sr.iJ,m.o]
  have g7:=y.o.bT 7;have k4:i.cell? (zq b 4)=bO (.map<|bO k'.mp):=f.cell 4 rfl;have k5:i.cell? (zq b 5)=bO (zi k'.ep):=f.cell 5 rfl;have bf:i.cell? (zq b 11)=bO (zi k'.base):=f.cell 11 rfl;have bg:i.cell? (zq b 12)=bO (zi k'.last):=f.cell 12 rfl;have bh:i.cell? (zq b 13)=bO (zi k'.named):=f.cell 13 rfl;have bd:¬B=i.heap.size:=by have:=y.o.lt;omega
  have e7:(i.alloc<|.cells #[.map<|bO k'.mp,.slice bN 0 0,zi k'.ep,zi k'.base,zi k'.last,zi k'.named,zi 0] 152).cell? (zq B 7)=bO (.pointer bN):=((y.o.alloc _).cell 7 (v:=Sr.iJ _) rfl).trans (by simp[Sr.iJ,m.o]);have h7:=(y.o.alloc<|.cells #[.map<|bO k'.mp,.slice bN 0 0,zi k'.ep,zi k'.base,zi k'.last,zi k'.named,zi 0] 152).bT 7;clear Q s n f C E hm j
  go_wp2
  refine z.o _ _ _ ⟨rfl,zi 0,fun t d=>⟨t,d,?_⟩,W.o _ _ HM.o<|q.o _ rfl⟩;show(aN Tryz.f40 _).run prog _=_;simp[aN,Tryz.results40,go_sem]
end
section
variable [pn:A.Pn]
section
variable {B:Nat} {t:Nat→Question→Nat}
def xqq:Tryz.f40.body=bO (.seq Ip<|.seq pM Kh):=by kernel_rfl
def jt.re{r r':Sr}{w w':Zy}{d:Nat}(h:jt B r w r'<|re w' t d):jt B r w r' w':=⟨xb.re h.but,⟨h.at_.blk,⟨h.at_.disk.blk,h.at_.disk.map,h.at_.disk.eU⟩,fun s a=>⟨⟨(h.at_.bU s a).1.blk,(h.at_.bU s a).1.map,(h.at_.bU s a).1.pend⟩,(h.at_.bU s a).2⟩⟩,h.own⟩
def jt.gL{r r':Sr}{w w':Zy}(h:jt B r w r' w')(t:Nat->Question->Nat)(d:Nat):jt B r w r'<|A.re w' t d:=⟨⟨h.but.os,h.but.output,h.but.size,h.but.block⟩,⟨h.at_.blk,⟨h.at_.disk.blk,h.at_.disk.map,h.at_.disk.eU⟩,fun s a=>⟨⟨(h.at_.bU s a).1.blk,(h.at_.bU s a).1.map,(h.at_.bU s a).1.pend⟩,(h.at_.bU s a).2⟩⟩,h.own⟩
def zxy{cv tv:Zv}{r:Sr}{w w':Zy}{e:Ending}{d:Nat}:QX cv tv B r w e (re w' t d)↔QX cv tv B r w e w':=by
 constructor;rintro⟨f,g,h⟩;refine⟨f,g,?_⟩;cases hq:Yu (Jp r.m r.mark r.cnt r.op f) r.d.L with
 |none=>rw[hq]at h;exact⟨h.1,jt.re h.2⟩
 |some p=>
  rw[hq]at h;rcases h with⟨a,b,S,c⟩|⟨a,b,c⟩
  exact .inl ⟨a,b,S,jt.re c⟩;exact .inr ⟨a,b,jt.re c⟩
 rintro⟨f,g,h⟩;refine⟨f,g,?_⟩;cases hq:Yu (Jp r.m r.mark r.cnt r.op f) r.d.L with
 |none=>rw[hq]at h;exact⟨h.1,jt.gL h.2 t d⟩
 |some p=>
  rw[hq]at h;rcases h with⟨a,b,S,c⟩|⟨a,b,c⟩
  exact .inl ⟨a,b,S,jt.gL c t d⟩;exact .inr ⟨a,b,jt.gL c t d⟩
def xnr{cv tv:Zv}{r:Sr}{w:Zy}(h:Jq w B r)(F:r.sn=bN)(a:fV B r)(p:iA cv tv w)(j:∀i,(qu r.d.L i).length<=100000)
  (y:∀mp k L,Yu (Jp r.m r.mark r.cnt r.op mp) r.d.L=bO (k,L)->(k.dD=bL->0<=k.whole/\k.whole<=((qu r.d.L k.last).length:Nat))/\ -1000000000000<=k.last/\k.last<=1000000000000):
  CC bM 40 #[zo B] w (QX cv tv B r w):=by
 have K:kT<|nJ bM funcs Tryz.f40<|QX cv tv B r w:=AO fun e w t d=>zxy;have l:∀x,r.d.own r.D x->2<x:=fun x W=>a.own x<|.inr<|.inl W;refine CC.fA bQ oC (bZ rfl Tryz.func40 rfl).1 Tryz.func40 xqq ?_;rw[show Tryz.f40.ntmps=45 from rfl];refine Xn.go' bQ kZ oC K trivial fun w0 M Q R hX=>?_;have g:=ji Q;have H:Ip.wp prog M ⟨#[zo B]++aW (45-1) bJ,[]⟩ w0:=by
  simp only[jg,zh,jn,Nat.reduceAdd,Nat.reduceSub,qw,qx,Z7,Zi,jk,jc]
  conv=>arg 2;whnf
  go_wp2
  refine R.o _ _ ?_;have J:=h.but g fun _ _=>id;refine Xn.seq bQ oC trivial (xns (tv:=tv) (r:=r) (B:=B) (v2:=zi 0) J.blk J.disk l (p.Am.nw g) (p.tab.nw g) a.m (by have:=a.cnt;omega) j rfl rfl rfl rfl (fun O I mp c E C n=>?_) fun O I mp b k L c G X Y Z E C hb n s U T=>?_);refine⟨c,mp,by have:=g.size;omega,?_⟩;rw[n];exact⟨rfl,jt.nw h<|g.trans E⟩;have nw:=g.trans E;have ba:=g.size;refine Xn.last' bQ kZ oC K fun w1 N o q=>?_;have n1:=ji o;obtain⟨V,v⟩:=y mp k L n;refine RE (cv:=cv) (tv:=tv) (k:=k) (L:=L) (r:=r) (xmu c G X Y Z) h F (nw.trans n1) (by omega) (by omega) (Xa.nw T n1) (by rw[s];exact U.nw n1) a (p.but (S:=fun _=>False) (nw.trans n1) fun _ x=>x.elim) V v q (fun I S z f=>?_) fun I z f=>?_;refine⟨mp,by omega,?_⟩;rw[n];exact .inl ⟨z,rfl,S,f⟩;refine⟨mp,by omega,?_⟩;rw[n];exact .inr ⟨z,rfl,f⟩
 exact H
end
end
end P
namespace A
open Go Go.Conc Go.RowKit
section
variable [pn:Pn]
section
variable {P:aV} {F:Array Func} {dm:Frame} {w w':World}
def RX.leaves(K:J0 P F)(y:gN P dm){f:Zf}{fnc:Func}{u:FrameMode}{s:Zf}{cs:List Zf}{R:Ending->Zy->Prop}(hk:f.kind= .normal)(D:¬Mc P f.fn)(I:∃fn,P.funcs[f.fn]?=bO fn)(z:(wf P F).funcs[f.fn]?=bO fnc)(J:f.mode=u)
  (B:∀e w t d,R e (A.re w t d)->R e w)(q:∀w',¬R .outgrown w')(H:∀t d,Leaves (wf P F) fnc f.tmps R f.defers u<|A.re w t d):
  RX P (Z0 f (s::cs)) w (fun g' w'=>∃e,R e w'/\UJ s cs e g'):=by
 refine(RX.lift K y
  (End:=fun g' w'=>∃e h r o,R e (A.re w' r o)/\e≠ .outgrown/\g'=Z0 h [dm]/\h.fn=f.fn/\h.leaving (wf P F) (A.re w' r o) e) (fun g' w' t d=>Iff.rfl) ?_ D hk ?_).trans ?_
 rintro g' w' ⟨e,h,r,o,_,i,rfl,_,n⟩ ⟨_,hd⟩;cases e with
 |outgrown=>exact i rfl
 |returned v=>
  obtain⟨a,b,_⟩:=n;rcases hd with⟨m,_⟩|⟨_,m,_⟩
  have g:h.mode= .run:=m;rw[a]at g;cases g;have g:h.defers=[_]:=m;rw[b]at g;cases g
 |panicked c=>
  obtain⟨a,b,_⟩:=n;rcases hd with⟨m,_⟩|⟨_,m,_⟩
  have g:h.mode= .run:=m;rw[a]at g;cases g;have g:h.defers=[_]:=m;rw[b]at g;cases g
 intro t d;obtain⟨e,w',h,k,E,j,n⟩:=leaves_steps (P:=wf P F) f.defers u (A.re w t d) f [dm] J rfl rfl z hk<|H t d;have i:e≠ .outgrown:=by rintro rfl;exact q _ k
 refine⟨h,[dm],w',?_,e,h,w'.tape,w'.drawn,k,i,rfl,j,n⟩;cases e with
 |outgrown=>exact absurd rfl i
 |returned v=>exact E
 |panicked c=>exact E
 rintro C w' ⟨g',l,⟨e,h,r,o,k,i,rfl,j,n⟩,x,rfl⟩;have:l=[]:=by
  have G:[dm]=l++[dm]:=x;have:=congrArg List.length G;simp only[zj,jd]at this;exact xa<|by omega
 subst this;have k:=B _ _ _ _ k;have p:zK P F h w' e:=⟨i,r,o,n⟩;show RX P (Z0 h (s::cs)) w' _;cases e with
 |outgrown=>exact(q _ k).elim
 |returned v=>
  refine(RX.ret K (by rw[j];exact D) p).trans ?_;rintro C L ⟨t,d,rfl,rfl⟩;exact(RX.refl ⟨_,k,rfl⟩).kI
 |panicked ch=>
  refine(RX.raise p<|by rw[j];exact I).trans ?_;rintro C L ⟨rfl,rfl⟩;exact .refl ⟨_,k,rfl⟩
end
end
end A
namespace P
open A.Tryq Go.RowKit
section
attribute [local go_sem] xe zv
def Oh(p q:Addr)(w:Zy):CallsD prog 79 #[.pointer<|bO p,.pointer<|bO q] .returning w fun e u' w'=>e= .returned (.tuple #[])/\u'= .returning/\w'=w:=by
 refine callsD_of_wpS func79.1 rfl fun a c b=>?_;apply wpS_seq;apply wpS_region;simp[wpOpsS,go_sem,recoverD,b,Tryz.ntmps79,Exit.thenS];apply wpS_seq;apply wpS_region;simp[wpOpsS,go_sem,Exit.thenS];refine wpS_cond (t:=bK) (by simp[Act.eval,aW]) ?_;simp only[xu,if_false];refine wpS_of_wp<|wp_skip ?_;cases a;simp_all [bodyPostS,aN,Tryz.results79]
end
section
attribute [local go_sem] xe zv
end
section
open A
variable [pn:A.Pn]
section
variable {a:Exit→Act→Zy→Prop}
noncomputable def XL:=Qa<|Qf Tryz.f39.body
noncomputable def XO:=Qa<|Qb<|Qf Tryz.f39.body
noncomputable def OB:Array aD:=match Tryz.f39.body with
 |some (.seq _<|.seq _<|.seq (.region _ ops _) _)=>ops
 |_=>#[]
def xqp:Tryz.f39.body=bO (.seq XL<|.seq XO<|.seq (.region 2 OB bK) .ret):=by kernel_rfl
def xua:¬Mc bM 39:=xO (by decide) (by decide) Tryz.func39
def xq5{v0 b:Zv}{w:Zy}(c:Hid<|a .normal ⟨#[v0,b,zo w.heap.size,bJ,zo<|w.heap.size+1,bJ,bJ,bJ],[]⟩<|(w.alloc<|.cells #[v0] 23).alloc<|.cells #[zi 0] 30)(d:v0.oneCell'=bL):
  XL.wp prog a ⟨#[v0,b,bJ,bJ,bJ,bJ,bJ,bJ],[]⟩ w:=by
 conv=>arg 2;whnf
 go_wp2
 exact c.o
def xq6{v0 b p q:Zv}{w:Zy}(c:Hid<|a .normal ⟨#[v0,b,p,bJ,q,.func (.func 79) #[] #[p,q],bJ,bJ],[⟨.fn (.func 79) #[p,q],#[]⟩]⟩ w):
  XO.wp prog a ⟨#[v0,b,p,bJ,q,bJ,bJ,bJ],[]⟩ w:=by
 have d:∀(fn:Fn) (first cap:Za) (w:Zy),(Instr.makeFunc fn first cap).run prog w= .ok (.func fn first cap) w:=fun _ _ _ _=>rfl
 conv=>arg 2;whnf
 go_wp2
 exact c.o
def gW(B:Nat)(w:Zy):Zy:=(w.alloc<|.cells #[zo B] 23).alloc<|.cells #[zi 0] 30
def gD(w:Zy):Deferred:=⟨.fn (.func 79) #[zo w.heap.size,zo<|w.heap.size+1],#[]⟩
def VF{b:Zf}{a:Act}{x y:Code}{k:List Item}{cs:List Zf}{w:Zy}{G':Zg->Zy->Prop}(c:¬Mc bM b.fn)(h:RX bM (Z0 (b.at a (.code x:: .code y::k)) cs) w G'):RX bM (Z0 (b.at a (.code (.seq x y)::k)) cs) w G':=
 RX.ctl bQ (g':=Z0 (b.at a (.code x:: .code y::k)) cs) c (fun v=>by simp[aZ,Z0,Frame.at,bI]) rfl rfl rfl h
section
variable {b:Frame} {a:Act} {k:List Item} {cs:List Frame} {w:World} {G':Goroutine->World->Prop} {ops:Array aD} {id:Nat}
def LT(c:¬Mc bM b.fn)(h:RX bM (Z0 (b.at a (.inRegion ops (List.range ops.size)::k)) cs) w G'):RX bM (Z0 (b.at a (.code (.region id ops bK)::k)) cs) w G':=
 RX.ctl bQ (g':=Z0 (b.at a (.inRegion ops (List.range ops.size)::k)) cs) c (fun v=>by simp[aZ,Z0,Frame.at,bI]) rfl rfl rfl h
def xsi(c:¬Mc bM b.fn)(h:RX bM (Z0 (b.at a k) cs) w G'):RX bM (Z0 (b.at a (.inRegion ops []::k)) cs) w G':=
 RX.ctl bQ (g':=Z0 (b.at a k) cs) c (fun v=>by simp[aZ,Z0,Frame.at,bI]) rfl rfl rfl h
def xsj(c:¬Mc bM b.fn)(h:RX bM (Z0 {b.at a (.code .ret::k)with mode:= .returning} cs) w G'):RX bM (Z0 (b.at a (.code .ret::k)) cs) w G':=
 RX.ctl bQ (g':=Z0 {b.at a (.code .ret::k)with mode:= .returning} cs) c (fun v=>by simp[aZ,Z0,Frame.at,bI]) rfl rfl rfl h
end
def tE:OB.size=3:=by kernel_rfl
def C_:OB=#[⟨bO 6,.move<|.tmp 1,31,"coffer.go:236",#[],bN⟩,⟨bO 7,.call ⟨.value<|.tmp 6,#[],#[]⟩,30,"coffer.go:236",#[⟨0,.data⟩],bN⟩,⟨bN,.store 30 (.tmp 4)<|.tmp 7,0,"coffer.go:236",#[⟨1,.data⟩,⟨1,.chain⟩,⟨0,.phase⟩,⟨1,.phase⟩],bN⟩]:=by kernel_rfl
def zz9{f:FuncId}{B:Nat}{w:Zy}{s R:Ending->Zy->Prop}(S:Ys bM funcs f)(l:∀args w,(callFunc f args).run prog w= .ok (.enter f args) w)(O:CC bM f #[zo B] (gW B w) s)
  (p:∀e w t d,R e (re w t d)->R e w)(q:∀e w t d,R e w->R e (re w t d))(n:∀w',¬R .outgrown w')
  (r:∀v w',s (.returned v) w'->∃x,v=zi x/\xx w' (w.heap.size+1) #[zi 0] 30/\R (.returned v) (w'.setCell (zq (w.heap.size+1) 0) v))
  (o:∀ch w',s (.panicked ch) w'->∀tm:Za,tm[4]?=bO (zo<|w.heap.size+1)->∀t d,Leaves prog Tryz.f39 tm R [gD w] (.panicking ch)<|re w' t d):
  CC bM 39 #[zo B,.func (.func f) #[zo B] #[]] w R:=by
 intro W X;obtain⟨b,J⟩:∃b,b=bF bM 39 #[zo B,.func (.func f) #[zo B] #[]] .normal:=⟨_,rfl⟩;have Q:bF bM 39 #[zo B,.func (.func f) #[zo B] #[]] .normal=b.at ⟨#[zo B,.func (.func f) #[zo B] #[],bJ,bJ,bJ,bJ,bJ,bJ],[]⟩ [.code<|.seq XL<|.seq XO<|.seq (.region 2 OB bK) .ret]:=by
  rw[J];simp only[bF,Frame.at,Tryz.func39,js,jv,Option.bind_some,xqp];rfl
 have g:b.fn=39:=by rw[J];rfl
 have a:b.kind= .normal:=by rw[J];rfl
 have c:¬Mc bM b.fn:=by rw[g];exact xua
 rw[Q];refine VF c<|RX.wp bQ kZ c a (Post:=fun e i w'=>e= .normal/\i=⟨#[zo B,.func (.func f) #[zo B] #[],zo w.heap.size,bJ,zo<|w.heap.size+1,bJ,bJ,bJ],[]⟩/\kE (gW B w) w') ?_ ?_ (fun t d=>?_) ?_;rintro e i w' t d;constructor;rintro⟨j,k,K,C,E⟩;exact⟨j,k,w'.tape,w'.drawn,by have:=congrArg (fun z=>re z w'.tape w'.drawn) E;simpa[vK,KX]using this⟩;rintro⟨j,k,K,C,rfl⟩;exact⟨j,k,t,d,by rw[vK]⟩;rintro e i w' ⟨rfl,_⟩;trivial;exact xq5 ⟨rfl,rfl,t,d,rfl⟩ rfl;rintro e U w1 Y ⟨rfl,rfl,G⟩ ⟨_,rfl⟩;refine G.rx ?_;refine VF c<|RX.wp bQ kZ c a (Post:=fun e i w'=>e= .normal/\i=⟨#[zo B,.func (.func f) #[zo B] #[],zo w.heap.size,bJ,zo<|w.heap.size+1,.func (.func 79) #[] #[zo w.heap.size,zo<|w.heap.size+1],bJ,bJ],[gD w]⟩/\kE (gW B w) w') ?_ ?_ (fun t d=>?_) ?_;rintro e i w' t d;constructor;rintro⟨j,k,K,C,E⟩;exact⟨j,k,w'.tape,w'.drawn,by have:=congrArg (fun z=>re z w'.tape w'.drawn) E;simpa[vK,KX]using this⟩;rintro⟨j,k,K,C,rfl⟩;exact⟨j,k,t,d,by rw[vK]⟩;rintro e i w' ⟨rfl,_⟩;trivial;exact xq6 ⟨rfl,rfl,t,d,rfl⟩;rintro e V w2 Z ⟨rfl,rfl,H⟩ ⟨_,rfl⟩;refine H.rx ?_;refine VF c<|LT c ?_;rw[tE,show List.range 3=[0,1,2]from rfl];refine RX.value bQ c (val:= .func (.func f) #[zo B] #[]) (w':=gW B w) (by rw[C_];rfl) rfl (by rw[a];simp) (fun t d=>⟨t,d,by show(bG _ _).run prog _=_;simp[bG,go_sem]⟩) ?_;refine RX.call bQ c (f:=f) (args:=#[zo B]) (by rw[C_];rfl) rfl (by rw[a];simp) (fun v=>?_) S O ?_ ?_
 ·show(bG _ _).run prog _=_
  simp[bG,go_sem,resolve,Act.put,l]
 ·intro v h I
  obtain⟨x,rfl,F,m⟩:=r v h I;have y:h.cell? (zq (w.heap.size+1) 0)=bO (zi 0):=F.cell 0 rfl;have D:=F.bT 0;refine RX.skip bQ c (w':=h.setCell (zq (w.heap.size+1) 0)<|zi x) (by rw[C_];rfl) rfl (by rw[a];simp) (fun t d=>⟨t,d,?_⟩) ?_
  ·have L:(re h t d).cell? (zq (w.heap.size+1) 0)=bO (zi 0):=y
   have N:(re h t d).frozen? (zq (w.heap.size+1) 0)=bK:=D;show(bG _ _).run prog _=_;simp[bG,go_sem,Act.put,L,N];rfl
  refine xsi c<|xsj c ?_;refine RX.leaves bQ kZ (fnc:=Tryz.f39) (u:= .returning) a c ⟨_,by rw[show({b.at _ _ with mode:= .returning}:Zf).fn=39 from g];exact Tryz.func39⟩ (by rw[show({b.at _ _ with mode:= .returning}:Zf).fn=39 from g];exact func39.1) rfl p n fun t d=>?_;show Leaves prog _ _ _ _ _ _;refine leaves_cons (f:=79) (args:=#[zo w.heap.size,zo<|w.heap.size+1]) (by simp) (by simp[go_sem,gD]) ?_;refine(Oh _ _ _).mono ?_;rintro e u' T ⟨rfl,rfl,rfl⟩;have M:(re (h.setCell (zq (w.heap.size+1) 0)<|zi x) t d).cell? (zq (w.heap.size+1) 0)=bO (zi x):=(F.set 0 _).cell 0 rfl;simp[Leaves,settle,aN,Tryz.results39,go_sem,Act.put,Frame.at,M];exact q _ _ _ _ m
 intro ch h I;refine RX.leaves bQ kZ (fnc:=Tryz.f39) (u:= .panicking ch) a c ⟨_,by rw[show({b.at _ _ with mode:= .panicking ch}:Zf).fn=39 from g];exact Tryz.func39⟩ (by rw[show({b.at _ _ with mode:= .panicking ch}:Zf).fn=39 from g];exact func39.1) rfl p n fun t d=>?_;exact o ch h I _ rfl t d
end
end
section
open A
variable [pn:A.Pn]
attribute [local go_sem] xe zv
noncomputable def c13:=Qf Tryz.f16.body
noncomputable def Hw:=Qa c13
noncomputable def Hy:=Qa<|Qb c13
noncomputable def Hz:=Qa<|Qb<|Qb c13
noncomputable def Im:=Qa<|Qn 3 c13
noncomputable def UY:=Qa<|Qn 4<|Qf Tryz.f16.body
def xqn:Tryz.f16.body=bO (.seq Hw<|.seq Hy<|.seq Hz<|.seq Im<|.seq UY .ret):=by kernel_rfl
def qF:¬Mc bM 16:=xO (by decide) (by decide) Tryz.func16
def CJ(B:Nat)(a:Act):Prop:=∃v2 x1 x3 x4 x5 x6 x7 x8 x9 x10 x11 x12 x13 x14 x15 x16 x17 x18 x19 x20 x21 x22 x23 x24 x25 x26,a=⟨#[zo B,x1,v2,x3,x4,x5,x6,x7,x8,x9,x10,x11,x12,x13,x14,x15,x16,x17,x18,x19,x20,x21,x22,x23,x24,x25,x26],[]⟩
section
variable {B:Nat} {r:Sr} {w:World} {Po:Exit->Act->World->Prop} {a:Act}
def xui(a:Hid<|∀a',CJ B a'->Po .normal a' w):Hw.wp prog Po ⟨#[zo B]++aW (27-1) bJ,[]⟩ w:=by
 simp only[jg,zh,jn,Nat.reduceAdd,Nat.reduceSub,qw,qx,Z7,Zi,jk,jc]
 conv=>arg 2;whnf
 go_wp2
 exact a.o _ ⟨_,_,_,_,_,_,_,_,_,_,_,_,_,_,_,_,_,_,_,_,_,_,_,_,_,_,rfl⟩
def xuj(d:CJ B a)(h:xx w B r.cells 94)(b:r.sn=bN)(c:Hid<|∀a',CJ B a'->Po .normal a' w):Hy.wp prog Po a w:=by
 obtain⟨z,C,D,E,F,G,H,I,J,e,f,g,i,j,k,l,m,n,o,p,q,s,t,v,x,y,rfl⟩:=d;have c7:w.cell? (zq B 7)=bO (.pointer bN):=(h.cell 7 rfl).trans (by simp[Sr.cells,Sr.iJ,b]);clear h b
 conv=>arg 2;whnf
 go_wp2
 exact c.o _ ⟨_,_,_,_,_,_,_,_,_,_,_,_,_,_,_,_,_,_,_,_,_,_,_,_,_,_,rfl⟩
def xuk(c:CJ B a)(h:xx w B r.cells 94)(hop:r.op<999)(b:Hid<|∀a',CJ B a'->Po .normal a' w):Hz.wp prog Po a w:=by
 obtain⟨C,D,E,F,G,H,I,J,K,d,e,f,g,i,j,k,l,m,n,o,p,q,s,t,v,x,rfl⟩:=c;have y:w.cell? (zq B 6)=bO (zi r.op):=h.cell 6 rfl;have z:¬(r.op:Int)=999:=by omega
 clear h hop
 conv=>arg 2;whnf
 go_wp2
 exact b.o _ ⟨_,_,_,_,_,_,_,_,_,_,_,_,_,_,_,_,_,_,_,_,_,_,_,_,_,_,rfl⟩
def xul(c:CJ B a)(h:xx w B r.cells 94)(hop:r.op<999)(b:Hid<|∀a' w',CJ B a'->w'=w.setCell (zq B 6) (zi (r.op+1:Nat))->Po .normal a' w'):Im.wp prog Po a w:=by
 obtain⟨D,E,F,G,H,I,J,K,L,d,e,f,g,i,j,k,l,m,n,o,p,q,s,t,v,x,rfl⟩:=c;have y:w.cell? (zq B 6)=bO (zi r.op):=h.cell 6 rfl;have z:=h.bT 6;have C:IntKind.i64.wrap ((r.op:Int)+1)=(r.op:Int)+1:=by rw[xn];omega
 clear h hop
 conv=>arg 2;whnf
 go_wp2
 exact b.o _ _ ⟨_,_,_,_,_,_,_,_,_,_,_,_,_,_,_,_,_,_,_,_,_,_,_,_,_,_,rfl⟩ rfl
end
def Wp(r:Sr)(k:Lk)(S:Nat)(L:KV):Sr:={r with op:=r.op+1,cnt:=k.cnt,mark:=k.tag,d:=(Xi k r.d).2.2,sn:=bO<|V4 S (Xi k r.d).2.1 L}
def jt.opn{B:Nat}{r:Sr}{w:Zy}(h:Jq w B r)(a:r.sn=bN):jt B r w {r with op:=r.op+1}<|w.setCell (zq B 6)<|zi (r.op+1:Nat):=by
 refine⟨(xb.set w (zq B 6) _).mono fun x b=> .inl b,⟨h.blk.set 6 _,?_,fun s e=>?_⟩,fun x b=>?_⟩;exact h.disk.but (xb.set w _ _) fun x b e=>h.fB (by have e:x=B:=e;rw[<-e];exact b);rw[show({r with op:=r.op+1}:Sr).sn=r.sn from rfl,a]at e;cases e;rcases b with e|e|⟨s,e,_⟩
 exact .inl<|.inl e;exact .inl<|.inr<|.inl e;rw[show({r with op:=r.op+1}:Sr).sn=r.sn from rfl,a]at e;cases e
def FH(B:Nat)(r:Sr)(w:Zy)(e:Ending)(w':Zy):Prop:=e= .returned (zi 0)/\∃mp k L S,Yu (Jp r.m r.mark r.cnt ((r.op+1:Nat):Int) mp) r.d.L=bO (k,L)/\jt B r w (Wp r k S L) w'
def vem{B:Nat}{r:Sr}{w:Zy}{n:Int}{C:Zy->Prop}(h:Jq w B r)(g:r.sn=bN)(hop:r.op<999)(H:∀w' t d,C (re w' t d)↔C w')
  (x:∀w5,jt B r w {r with op:=r.op+1} w5->CC bM 39 #[zo B,.func (.func 40) #[zo B] #[]] w5 fun e w'=>e= .returned (zi n)/\C w'):
  CC bM 16 #[zo B] w fun e w'=>e= .returned (zi n)/\C w':=by
 have i:kT<|nJ bM funcs Tryz.f16 fun e w'=>e= .returned (zi n)/\C w':=AO fun e w' t d=>and_congr_right fun _=>H w' t d;refine CC.fA bQ qF (bZ rfl Tryz.func16 rfl).1 Tryz.func16 xqn ?_;rw[show Tryz.f16.ntmps=27 from rfl];refine Xn.go' bQ kZ qF i trivial fun w1 Po a I hX=>xui fun a1 o=>I.o _ _ ?_;refine Xn.go' bQ kZ qF i trivial fun w2 D b j K=>xuj (r:=r) o ((h.blk.nw<|ji a).nw<|ji b) g fun a2 p=>j.o _ _ ?_;refine Xn.go' bQ kZ qF i trivial fun w3 E c k L=>xuk (r:=r) p (((h.blk.nw<|ji a).nw<|ji b).nw<|ji c) hop fun a3 q=>k.o _ _ ?_;refine Xn.go' bQ kZ qF i trivial fun O F f l M=>xul (r:=r) q ((((h.blk.nw<|ji a).nw<|ji b).nw<|ji c).nw<|ji f) hop fun a4 w5 s y=>l.o _ _ ?_;have z:Nw w O:=(((ji a).trans<|ji b).trans<|ji c).trans<|ji f;have G:jt B r w {r with op:=r.op+1} w5:=by
  rw[y];exact(jt.nw h z).trans<|jt.opn (h.but z fun _ _=>id) g
 obtain⟨v2,x1,x3,x4,x5,x6,x7,x8,x9,R,S,T,U,V,W,X,Y,Z,ba,bb,bc,bd,be,bf,bg,bh,rfl⟩:=s;refine Xn.seq bQ qF trivial ?_
 conv=>arg 3;whnf
 refine Xn.dB bQ qF ?_;refine Jc.value (val:=zo B) (w':=w5) bQ qF rfl (fun t d=>⟨t,d,by show(bG _ _).run prog _=_;simp[bG,go_sem]⟩) ?_;refine mZ (val:=zo B) qF ⟨rfl,rfl⟩ ?_;refine Jc.value (val:= .func (.func 40) #[zo B] #[]) (w':=w5) bQ qF rfl (fun t d=>⟨t,d,by show(bG _ _).run prog _=_;simp[bG,go_sem,Act.put]⟩) ?_;refine Jc.call bQ qF rfl rfl (fun v=>by show(bG _ _).run prog _=_;simp[bG,go_sem,resolve,Act.put]) (bZ rfl Tryz.func39 rfl) (x _ G) ?_ ?_
 ·rintro v Q J
  obtain⟨m,N⟩:=J;cases m;refine mZ (val:=zi n) qF ⟨rfl,rfl⟩ ?_;refine Jc.nil bQ qF ?_;refine Xn.ret bQ qF rfl ⟨rfl,zi n,fun t d=>⟨t,d,?_⟩,rfl,N⟩;show(aN Tryz.f16 _).run prog _=_;simp[aN,Tryz.results16,go_sem,Act.put]
 rintro ch Q ⟨m,_⟩;cases m
def G_{cv tv:Zv}{B:Nat}{r:Sr}{w:Zy}(h:Jq w B r)(Q:r.sn=bN)(hop:r.op<999)(b:fV B r)(hG:iA cv tv w)(M:∀i,(qu r.d.L i).length<=100000)
  (N:∀mp,∃k L,Yu (Jp r.m r.mark r.cnt ((r.op+1:Nat):Int) mp) r.d.L=bO (k,L)/\(Xi k r.d).1=bL/\(k.dD=bL->0<=k.whole/\k.whole<=((qu r.d.L k.last).length:Nat))/\ -1000000000000<=k.last/\k.last<=1000000000000):
  CC bM 16 #[zo B] w (FH B r w):=by
 have j:∀e c t d,FH B r w e (re c t d)↔FH B r w e c:=fun e c t d=>⟨fun⟨D,mp,k,L,S,I,U⟩=>⟨D,mp,k,L,S,I,jt.re U⟩,fun⟨D,mp,k,L,S,I,U⟩=>⟨D,mp,k,L,S,I,jt.gL U t d⟩⟩;refine vem (n:=0) (C:=fun c=>∃mp k L S,Yu (Jp r.m r.mark r.cnt ((r.op+1:Nat):Int) mp) r.d.L=bO (k,L)/\jt B r w (Wp r k S L) c) h Q hop (fun c t d=>⟨fun h=>((j (.returned<|zi 0) c t d).1 ⟨rfl,h⟩).2,fun h=>((j (.returned<|zi 0) c t d).2 ⟨rfl,h⟩).2⟩) fun l z=>?_;have q:fV B {r with op:=r.op+1}:=⟨b.m,b.mark,b.cnt,by show r.op+1<1000000;omega,b.room,b.files,b.few,b.nx,fun x T=>b.own x T,fun s e=>b.bU s e⟩;have W:=hG.but z.but b.own;obtain⟨a,f⟩:∃a:Sr,a={r with op:=r.op+1}:=⟨_,rfl⟩;have o:∀mp k L,Yu (Jp a.m a.mark a.cnt a.op mp) a.d.L=bO (k,L)->(Xi k a.d).1=bL/\(k.dD=bL->0<=k.whole/\k.whole<=((qu a.d.L k.last).length:Nat))/\ -1000000000000<=k.last/\k.last<=1000000000000:=by
  subst f;intro mp k L hq;obtain⟨k',L',D,I⟩:=N mp;have:=hq.symm.trans D;cases this;exact I
 have y:∀mp,Yu (Jp a.m a.mark a.cnt a.op mp) a.d.L≠bN:=by
  subst f;intro mp e;obtain⟨k',L',D,I⟩:=N mp;have:=e.symm.trans D;cases this
 have R:a.sn=bN:=by rw[f];exact Q
 have E:∀i,(qu a.d.L i).length<=100000:=by rw[f];exact M
 rw[<-f]at z q;have ba:∀c k S L,jt B a l {a with cnt:=k.cnt,mark:=k.tag,d:=(Xi k a.d).2.2,sn:=bO<|V4 S (Xi k a.d).2.1 L} c->jt B r w (Wp r k S L) c:=fun c k S L g=>by
  have:=z.trans g;subst f;exact this
 have hq:∀mp k L,Yu (Jp a.m a.mark a.cnt a.op mp) a.d.L=bO (k,L)->Yu (Jp r.m r.mark r.cnt ((r.op+1:Nat):Int) mp) r.d.L=bO (k,L):=fun mp k L g=>by subst f;exact g
 clear f;have g1:Jq (gW B l) B a:=z.at_.but ((Nw.alloc _ _).trans<|Nw.alloc _ _) fun _ _=>id;have nG:Nw l<|gW B l:=(Nw.alloc _ _).trans<|Nw.alloc _ _;have F:=xnr g1 R q (W.but nG fun _ x=>x.elim) E fun mp k L e=>(o mp k L e).2;have Y:(gW B l).heap.size=l.heap.size+2:=by simp[gW]
 have X:xx (gW B l) (l.heap.size+1) #[zi 0] 30:=by
  have:=xx.new (l.alloc<|.cells #[zo B] 23) #[zi 0] 30;rw[xh]at this;exact this
 show CC bM 39 _ l<|FH B r w;refine zz9 (bZ rfl Tryz.func40 rfl) (fun K w=>func40.2 K w) F (fun e c t d g=>(j e c t d).1 g) (fun e c t d g=>(j e c t d).2 g) (fun c g=>by cases g.1) ?_ ?_;rintro v c ⟨mp,Z,g⟩;cases hl:Yu (Jp a.m a.mark a.cnt a.op mp) a.d.L with
 |none=>exact(y mp hl).elim
 |some p=>
  obtain⟨k,L⟩:=p;rw[hl]at g;rcases g with⟨O,J,S,H⟩|⟨O,J,_⟩
  cases J;have G:¬({a with cnt:=k.cnt,mark:=k.tag,d:=(Xi k a.d).2.2,sn:=bO<|V4 S (Xi k a.d).2.1 L}:Sr).own B (l.heap.size+1):=fun T=>by
   rcases H.own _ T with V|V;have:=Sr.bX z.at_ V;omega;rw[Y]at V;omega
  refine⟨0,rfl,X.but H.but fun T=>?_,rfl,mp,k,L,S,hq _ _ _ hl,ba _ _ _ _ ?_⟩;have:=Sr.bX z.at_ T;omega;exact jt.fresh ((jt.nw z.at_ nG).trans H) (by omega) G<|xb.set c (zq (l.heap.size+1) 0) _;cases J
 rintro ch c ⟨mp,Z,g⟩;exfalso;cases hl:Yu (Jp a.m a.mark a.cnt a.op mp) a.d.L with
 |none=>exact y mp hl
 |some p=>
  obtain⟨k,L⟩:=p;rw[hl]at g;rcases g with⟨O,J,_⟩|⟨O,J,_⟩
  cases J;rw[(o _ _ _ hl).1]at O;cases O
end
section
variable {d:Dk}
structure MP(r:Sr)(s:Jo)(L0:KV)(xs:List Zl)(q:Lk)(L:KV):Prop where
 ok:wY r.m r.d.L L0 xs q L
 cnt:q.cnt=r.cnt
 tag:q.tag=r.mark
 ep:q.ep=s.ep
 same:iF L s.L
 base:s.base=(Y0 (Jp r.m [] 0 0 0) r.d.L).base
 last:s.last=s.base+xs.length
 named:s.named=(Y0 (Jp r.m [] 0 0 0) r.d.L).named
structure Wy(r:Sr)(s:Jo):Prop where
 dsk:∃L0 xs q L,MP r s L0 xs q L
 mark:r.mark.length=32
 gd:fM r.d.L
 each:jX r.d.L
 nx:r.d.nx=bN
 room:r.d.room=100000
 lim:r.lim=999
 fus:J6 r.d.L<=16500+1071*(r.cnt:Int)
 rC:s.last<=(r.cnt:Int)
 cnt:r.cnt<=40
 P:∀c∈s.P,mF c
 P20:s.P.length<=20
 sK:jM s.L
 len:s.L.length<=20*r.cnt
 ep:s.ep<=5
 op:r.op<=999
 named:s.named=0\/s.named=10001\/s.named=10002
 sh0:0<=s.bP
section
variable {r:Sr} {s:Jo}
def Wy.m(I:Wy r s):r.m.length=32:=by obtain⟨a,b,q,L,D⟩:=I.dsk;exact D.ok.m32
def Wy.nd(I:Wy r s):Nd s.L:=by obtain⟨a,b,q,L,D⟩:=I.dsk;exact D.same.2.1
def Wy.base0(I:Wy r s):0<=s.base/\s.base<=s.last:=by
 obtain⟨a,e,q,L,D⟩:=I.dsk;have:=AR r.m r.d.L;have b:=D.base;have c:=D.last;omega
def JN(h:d.nx=bN):d.tick=d:=by unfold Dk.tick;rw[h]
def zY(h:d.nx=bN):d.stops=bK:=by unfold Dk.stops;rw[h]
def z_(h:d.nx=bN)(n:Int)(x:Zl):d.app n x={d with L:=Yx d.L n (qu d.L n++x,(Vu d.L n).2)}:=by unfold Dk.app;rw[JN h]
def Ui(h:d.nx=bN)(n:Int):d.mR n={d with L:=Yx d.L n (qu d.L n,(qu d.L n).length)}:=by unfold Dk.mR;rw[JN h]
def Fi(h:d.nx=bN)(n:Int)(x:Zl):d.mG n x={d with L:=Yx d.L n (x,x.length)}:=by unfold Dk.mG;rw[JN h]
def Eg(h:d.nx=bN)(n:Int):d.rem n={d with L:=V6 d.L n}:=by unfold Dk.rem;rw[JN h]
def Ru{α:Type}[DecidableEq α]:∀{l S:List α},l.Nodup->(∀x∈l,x∈S)->l.length<=S.length
 |[],_,_,_=>Vj _
 |a::l,S,h,hs=>by
  have c:=Zr.1 h;have b:=hs a (by simp);have f:=Ru (S:=S.erase a) c.2 fun x d=>(List.mem_erase_of_ne fun e=>c.1<|by rw[<-e];exact d).2 (hs x<|by simp[d]);have g:=List.length_erase_of_mem b;have i:=List.length_pos_of_mem b;simp only[zh];omega
def Wy.few(I:Wy r s):r.d.L.length<=r.cnt+2:=by
 obtain⟨f,c,q,L,D⟩:=I.dsk;have k:=AR r.m r.d.L;have a:(r.d.L.map (·.1)).length<=(0::(Y0 (Jp r.m [] 0 0 0) r.d.L).dK::(List.range c.length).map fun(i:Nat)=>(Y0 (Jp r.m [] 0 0 0) r.d.L).base+1+(i:Int)).length:=by
  refine Ru I.gd.nd fun n b=>?_;rcases D.ok.own n (I.gd.mem.1 b)with e|e|e
  simp[e];simp[e];refine xj _<|xj _<|qp.2 ⟨(n-(Y0 (Jp r.m [] 0 0 0) r.d.L).base-1).toNat,List.mem_range.2<|by omega,by omega⟩
 simp only[Zb,zh,List.length_range]at a;have g:=D.last;have h:=D.base;have j:=I.rC;omega
def Wy.jD(I:Wy r s)(n:Int):(qu r.d.L n).length<=60000:=by
 have a:=Eb r.d.L n;have b:=I.fus;have c:=I.cnt;omega
def Wy.U9(I:Wy r s):mE r.d.L:=⟨I.each,by have:=I.few;have:=I.cnt;omega⟩
variable {c:UInt8} {ep:Nat} {plain:List UInt8}
def ER(I:Wy r s):(r.wrote s [c] ep plain).d={r.d with L:=Yx (Yx r.d.L (r.place s).1 (qu r.d.L (r.place s).1++((r.place s).2++Y5 r.m r.mark [c] ep r.op r.cnt plain),(Vu r.d.L (r.place s).1).2)) (r.place s).1 (qu (Yx r.d.L (r.place s).1 (qu r.d.L (r.place s).1++((r.place s).2++Y5 r.m r.mark [c] ep r.op r.cnt plain),(Vu r.d.L (r.place s).1).2)) (r.place s).1,(qu (Yx r.d.L (r.place s).1 (qu r.d.L (r.place s).1++((r.place s).2++Y5 r.m r.mark [c] ep r.op r.cnt plain),(Vu r.d.L (r.place s).1).2)) (r.place s).1).length)}:=by
 unfold Sr.wrote;simp only;rw[z_ I.nx,Ui<|by exact I.nx]
def xn9(m mark:Zl)(op cnt:Nat):Y5 m mark [c] ep op cnt plain≠[]:=by
 intro e;have:=congrArg List.length e;rw[QT _ _ _ _ _ _ _ rfl]at this;simp at this
def k7(I:Wy r s)(k:Int):qu (r.wrote s [c] ep plain).d.L k=if k=((r.place s).1:Int)then qu r.d.L (r.place s).1++((r.place s).2++Y5 r.m r.mark [c] ep r.op r.cnt plain)else qu r.d.L k:=by
 rw[ER I];simp only;rw[uS<|I.gd.lay _ _,uS I.gd];by_cases h:k=((r.place s).1:Int);rw[aA h,aA h,aA rfl];rw[aB h,aB h,uS I.gd,aB h]
def It(I:Wy r s):fM (r.wrote s [c] ep plain).d.L:=by
 rw[ER I];exact(I.gd.lay _ _).lay _ _
def Ta(I:Wy r s)(b:plain.length<=1020):((r.place s).2++Y5 r.m r.mark [c] ep r.op r.cnt plain).length<=1071:=by
 have a:=b_ r s;rw[zj,QT _ _ _ _ _ _ _ rfl];omega
def k8(I:Wy r s)(f:plain.length<=1020):J6 (r.wrote s [c] ep plain).d.L<=J6 r.d.L+1071:=by
 rw[ER I];simp only;have a:=Oq (F:=Yx r.d.L (r.place s).1 (qu r.d.L (r.place s).1++((r.place s).2++Y5 r.m r.mark [c] ep r.op r.cnt plain),(Vu r.d.L (r.place s).1).2)) (r.place s).1 (qu (Yx r.d.L (r.place s).1 (qu r.d.L (r.place s).1++((r.place s).2++Y5 r.m r.mark [c] ep r.op r.cnt plain),(Vu r.d.L (r.place s).1).2)) (r.place s).1,(qu (Yx r.d.L (r.place s).1 (qu r.d.L (r.place s).1++((r.place s).2++Y5 r.m r.mark [c] ep r.op r.cnt plain),(Vu r.d.L (r.place s).1).2)) (r.place s).1).length);have b:=Oq (F:=r.d.L) (r.place s).1 (qu r.d.L (r.place s).1++((r.place s).2++Y5 r.m r.mark [c] ep r.op r.cnt plain),(Vu r.d.L (r.place s).1).2);have e:=Ta (c:=c) (ep:=ep) I f;simp only[zj]at a b e;omega
def Un(I:Wy r s):1<=(r.place s).1/\(r.place s).1<=r.cnt+1/\s.last<=((r.place s).1:Int):=by
 have a:=I.base0;have b:=I.rC;unfold Sr.place;split
 rename_i h
 have:=h.1;simp only;omega;simp only;omega
def AN(I:Wy r s)(h:plain.length<=1020):jX (r.wrote s [c] ep plain).d.L:=by
 have i:=Un I;have j:=I.cnt;have k:=I.jD (r.place s).1;have a:=Ta (c:=c) (ep:=ep) I h;have g:=I.each.dat (r.place s).1;have b:i64 ((r.place s).1:Int):=by unfold i64;omega
 have e:Vu r.d.L (r.place s).1=Vu r.d.L (r.place s).1:=rfl;have f:(Vu r.d.L (r.place s).1).1=qu r.d.L (r.place s).1:=rfl;rw[ER I];simp only;refine(I.each.lay b ?_).lay b ?_;simp only[zj]at a⊢;rw[f]at g;omega;rw[uS I.gd,aA rfl];simp only[zj]at a⊢;omega
def k_{b:KV}{xs:List Zl}{q q':Lk}{L L':KV}(I:Wy r s)(D:MP r s b xs q L)(C:recs q L (Y5 r.m r.mark [c] ep r.op r.cnt plain)=bO (q',L',[]))(j:q'.cnt=r.cnt+1){s':Jo}(y:q'.tag=nH r.m r.mark [c] ep r.op r.cnt plain)(t:q'.ep=s'.ep)(x:iF L' s'.L)(i:s'.base=s.base)(v:s'.last=((r.place s).1:Int))(w:s'.named=s.named):
  ∃xs',MP {r.wrote s [c] ep plain with sn:=bO s'} s' b xs' q' L':=by
 have p:=I.base0;have g:=D.base;have B:=D.last;have o:=I.rC;have l:=I.cnt;have f:((jT r.m r.d.L:Nat):Int)=s.base:=by rw[g];have:=AR r.m r.d.L;simp only[jT];omega
 have z:=D.ok.write C (xn9 _ _ _ _) (by rw[D.cnt,j];omega) (by
   unfold Sr.place;split
   rename_i h
   refine .inl ⟨rfl,?_,?_⟩;intro e;subst e;have:=h.1;simp at B;omega;simp only;omega;refine .inr ⟨?_,?_⟩;simp only;rw[D.cnt]
   congr 1
   omega;simp only;omega) (by omega) fun k=>k7 I k
 obtain⟨hk,xs',a,n,_⟩:=z;refine⟨xs',a,j,y,t,x,?_,?_,?_⟩;show s'.base=(Y0 (Jp r.m [] 0 0 0) (r.wrote s [c] ep plain).d.L).base;rw[hk,i,g];show s'.last=s'.base+xs'.length;rw[v,i];omega;show s'.named=(Y0 (Jp r.m [] 0 0 0) (r.wrote s [c] ep plain).d.L).named;rw[hk,w,D.named]
def SW(L:KV)(k v:Zl):(dA L k v).length<=L.length+1:=by
 induction L with
 |nil=>simp[dA]
 |cons p L ih=>
  obtain⟨a,b⟩:=p;unfold dA;split<;>simp<;>omega
def ST(L:KV)(k:Zl):(dO L k).length<=L.length:=by
 induction L with
 |nil=>simp[dO]
 |cons p L ih=>
  obtain⟨a,b⟩:=p;unfold dO;split<;>simp<;>omega
def y_:∀(D:List dM) (L:KV),(cO L D).length<=L.length+D.length
 |[],L=>ze _
 |c::D,L=>by
  have a:=y_ D<|app1 L c;have b:(app1 L c).length<=L.length+1:=by
   cases c with
   |put k v=>exact SW L k v
   |del k=>have:=ST L k;show(dO L k).length<=_;omega
  show(cO (app1 L c) D).length<=_;simp only[zh];omega
def Fr{L:KV}(h:jM L){k v:Zl}(hk:k≠[]/\k.length<=16/\v.length<=32):jM<|dA L k v:=by
 induction L with
 |nil=>intro p a;simp[dA]at a;subst a;exact hk
 |cons q L ih=>
  obtain⟨c,d⟩:=q;unfold dA;split;intro p a;rcases xf.1 a with rfl|a
  exact hk;exact h p (by simp[a]);intro p a;rcases xf.1 a with rfl|a
  exact h _ (by simp);exact ih (fun x b=>h x<|by simp[b]) p a
def zrb{L:KV}{k:Zl}{p:Zl×Zl}(h:p∈dO L k):p∈L:=by
 induction L with
 |nil=>cases h
 |cons q L ih=>
  obtain⟨a,b⟩:=q;unfold dO at h;split at h;exact xj _ h;rcases xf.1 h with rfl|h
  simp;exact xj _<|ih h
def F_:∀(D:List dM) {L:KV},jM L->(∀c∈D,mF c)->jM (cO L D)
 |[],L,h,_=>h
 |c::D,L,h,hD=>by
  refine F_ D ?_ fun x d=>hD x (by simp[d]);have a:=hD c (by simp);cases c with
  |put k v=>exact Fr h a
  |del k=>exact fun p b=>h p<|zrb b
end
section
variable {r:Sr} {s:Jo}
def wY.qm{m:Zl}{F:Ym}{a L:KV}{xs:List Zl}{q:Lk}(h:wY m F a xs q L):q.m=m:=by
 have:=h.log.m;rw[this];unfold Y0;split<;>rfl
structure tF(r:Sr)(r':Sr):Prop where
 op:r'.op=r.op
 m:r'.m=r.m
 D:r'.D=r.D
 M:r'.d.M=r.d.M
 nW:r'.nW=r.nW
def tF.trans{r1 a b:Sr}(h:tF r1 a)(k:tF a b):tF r1 b:=⟨k.op.trans h.op,k.m.trans h.m,k.D.trans h.D,k.M.trans h.M,k.nW.trans h.nW⟩
theorem tF.refl(r:Sr):tF r r:=⟨rfl,rfl,rfl,rfl,rfl⟩
def Sz(I:Wy r s){c:Z8}{ep:Nat}{plain:Zl}{q':Lk}{L':KV}{s':Jo}(n:plain.length<=1020)(z:r.cnt<=39)
  (C:∀L0 xs q L,MP r s L0 xs q L->∃q' L',recs q L (Y5 r.m r.mark [c] ep r.op r.cnt plain)=bO (q',L',[])/\q'.cnt=r.cnt+1/\q'.tag=nH r.m r.mark [c] ep r.op r.cnt plain/\q'.ep=s'.ep/\iF L' s'.L)
  (y:s'.base=s.base)(k:s'.last=((r.place s).1:Int))(l:s'.named=s.named)(i:s'.P=[])(f:jM s'.L)(a:s'.L.length<=20*(r.cnt+1))(b:s'.ep<=5)(g:s'.bP=s.bP):
  Wy {r.wrote s [c] ep plain with sn:=bO s'} s':=by
 obtain⟨L0,xs,q,L,D⟩:=I.dsk;obtain⟨q',L',p,t,v,w,x⟩:=C L0 xs q L D;obtain⟨h,o⟩:=k_ (s':=s') I D p t v w x y k l;have hd:(r.wrote s [c] ep plain).d.nx=r.d.nx/\(r.wrote s [c] ep plain).d.room=r.d.room:=by rw[ER I];exact⟨rfl,rfl⟩
 have j:=k8 (c:=c) (ep:=ep) I n;have B:=Un I;have e:((({r.wrote s [c] ep plain with sn:=bO s'}:Sr).cnt:Nat):Int)=(r.cnt:Int)+1:=by show((r.cnt+1:Nat):Int)=_;omega
 refine⟨⟨L0,h,q',L',o⟩,?_,It I,AN I n,hd.1.trans I.nx,hd.2.trans I.room,I.lim,?_,?_,?_,?_,?_,f,a,b,I.op,by rw[l];exact I.named,by rw[g];exact I.sh0⟩;exact p_;have:=I.fus;show J6 (r.wrote s [c] ep plain).d.L<=_;rw[e];omega;rw[k,e];omega;show r.cnt+1<=40;omega;rw[i];simp;rw[i];simp
def Rt{k:Lk}:∀{ns:List Int},(∀n∈ns,pJ k n=bL)->jA k ns d=(bL,d)
 |[],_=>rfl
 |n::ns,h=>by
  unfold jA;rw[aA<|h n<|by simp];exact Rt fun x a=>h x<|by simp[a]
def iF.len{L L':KV}(h:iF L L'):L.length=L'.length:=by
 have a:(Vp L).length=L.length:=by rw[(QJ L).length_eq,Zb]
 have b:(Vp L').length=L'.length:=by rw[(QJ L').length_eq,Zb]
 rw[<-a,<-b,<-KN,<-KN,VK h]
def iF.sK{L L':KV}(h:iF L L')(ho:jM L'):jM L:=by
 intro p c;have i:p.1∈L.map (·.1):=qp.2 ⟨p,c,rfl⟩;have d:Zh L p.1=bO p.2:=by
  have:∀{L:KV},Nd L->p∈L->Zh L p.1=bO p.2:=by
   intro L;induction L with
   |nil=>intro _ h;cases h
   |cons q L ih=>
    intro b c;unfold Nd at b;rw[xq,Zr]at b;unfold Zh;rcases xf.1 c with rfl|a
    simp;have:p.1≠q.1:=fun e=>b.1 (by rw[<-e];exact qp.2 ⟨p,a,rfl⟩);obtain⟨f,g⟩:=q;simp only at this⊢;rw[aB this];exact ih b.2 a
  exact this h.1 c
 rw[h.2.2]at d;have:∀{L:KV} {x v:Zl},Zh L x=bO v->(x,v)∈L:=by
  intro L;induction L with
  |nil=>intro x v h;cases h
  |cons p L ih=>
   intro x v h;obtain⟨f,g⟩:=p;unfold Zh at h;by_cases e:x=f;rw[aA e]at h;cases h;subst e;simp;rw[aB e]at h;exact xj _<|ih h
 exact ho _<|this d
structure FJ(r:Sr)(s:Jo)(mp:Nat)(k:Lk)(L:KV):Prop where
 look:Yu (Jp r.m r.mark r.cnt ((r.op+1:Nat):Int) mp) r.d.L=bO (k,L)
 mend:Xi k r.d=(bL,k,r.d)
 dD:k.dD=bK
 rC:0<=k.last/\k.last<=9999
 cnt:k.cnt=r.cnt
 tag:k.tag=r.mark
 same:iF L s.L
 inv:∀S,r.op<999->Wy (Wp r k S L) (V4 S k L)
 ep:k.ep=s.ep
 dK:k.dK=(Y0 (Jp r.m [] 0 0 0) r.d.L).dK
def Wy.reopen(I:Wy r s)(mp:Nat):∃k L,FJ r s mp k L:=by
 obtain⟨E,t,q,L,D⟩:=I.dsk;have B:=PF (mark:=r.mark) D.ok ((r.op+1:Nat):Int) mp D.tag;rw[D.cnt]at B;have F:=AR r.m r.d.L;have C:=D.ok.low;have v:(Y0 (Jp r.m r.mark r.cnt ((r.op+1:Nat):Int) mp) r.d.L).base=(Y0 (Jp r.m [] 0 0 0) r.d.L).base:=Us (Jp r.m r.mark r.cnt ((r.op+1:Nat):Int) mp) r.d.L rfl;have x:(Y0 (Jp r.m r.mark r.cnt ((r.op+1:Nat):Int) mp) r.d.L).dK=(Y0 (Jp r.m [] 0 0 0) r.d.L).dK:=by unfold Y0;split<;>rfl
 have w:(Y0 (Jp r.m r.mark r.cnt ((r.op+1:Nat):Int) mp) r.d.L).named=(Y0 (Jp r.m [] 0 0 0) r.d.L).named:=by unfold Y0;split<;>rfl
 have y:(Y0 (Jp r.m r.mark r.cnt ((r.op+1:Nat):Int) mp) r.d.L).dD=bK:=by unfold Y0;split<;>rfl
 obtain⟨k,hk⟩:∃k,k=({Y0 (Jp r.m r.mark r.cnt ((r.op+1:Nat):Int) mp) r.d.L with last:=(Y0 (Jp r.m [] 0 0 0) r.d.L).base+t.length}:Lk).set q:=⟨_,rfl⟩;have b:k.base=(Y0 (Jp r.m [] 0 0 0) r.d.L).base:=by rw[hk];exact v
 have h:k.dK=(Y0 (Jp r.m [] 0 0 0) r.d.L).dK:=by rw[hk];exact x
 have c:k.named=(Y0 (Jp r.m [] 0 0 0) r.d.L).named:=by rw[hk];exact w
 have i:k.dD=bK:=by rw[hk];exact y
 have a:k.last=(Y0 (Jp r.m [] 0 0 0) r.d.L).base+t.length:=by rw[hk];rfl
 have j:k.cnt=q.cnt:=by rw[hk];rfl
 have l:k.tag=q.tag:=by rw[hk];rfl
 have o:k.ep=q.ep:=by rw[hk];rfl
 have g:Xi k r.d=(bL,k,r.d):=by
  unfold Xi;rw[i,aB<|by simp,aB<|by simp];unfold qC;rw[Rt fun n H=>?_];have z:=I.gd.nums.1 H;unfold pJ;rw[h,b,a];rcases D.ok.own n z with e|e|e
  simp[e];simp[e];simp[e.1,e.2]
 refine⟨k,L,?_,g,i,?_,j.trans D.cnt,l.trans D.tag,D.same,fun S K=>?_,o.trans D.ep,h⟩;rw[B,<-hk];rw[a];omega;have J:=D.base;have G:=D.last;have hd:(Wp r k S L).d=r.d:=by unfold Wp;simp only[g]
 have f:(Wp r k S L).cnt=r.cnt:=j.trans D.cnt;have p:(Wp r k S L).mark=r.mark:=l.trans D.tag;refine⟨⟨E,t,q,L,?_⟩,by rw[p];exact I.mark,by rw[hd];exact I.gd,by rw[hd];exact I.each,by rw[hd];exact I.nx,by rw[hd];exact I.room,I.lim,by rw[hd,f];exact I.fus,?_,by rw[f];exact I.cnt,by simp[V4],by simp[V4],D.same.sK I.sK,?_,?_,?_,?_,by simp[V4]⟩;refine⟨?_,D.cnt.trans f.symm,D.tag.trans p.symm,?_,iF.rfl' D.same.1,?_,?_,?_⟩;rw[hd];exact D.ok;exact o.symm;rw[hd];exact b;show k.last=k.base+t.length;rw[a,b];rw[hd];exact c;rw[f];show k.last<=_;rw[a];have:=I.rC;omega;rw[f];show L.length<=_;rw[D.same.len];exact I.len;show k.ep<=5;rw[o,D.ep];exact I.ep;show r.op+1<=999;omega;show k.named=0\/k.named=10001\/k.named=10002;rw[c,<-D.named];exact I.named
end
def ZX{m:Mf}:∀(ns:List Int) (d:Dk),d.nx=bN->fM d.L->jX d.L->∃F',lK m ns d=(bL,{d with L:=F'})/\fM F'/\jX F'/\∀n,qu F' n=if n∈ns/\n≠0/\n≠(m.file:Int)then []else qu d.L n
 |[],d,_,hg,he=>⟨d.L,rfl,hg,he,fun n=>by simp⟩
 |n::ns,d,hx,hg,he=>by
  by_cases h:n=0\/n=(m.file:Int);obtain⟨F',f,g,i,j⟩:=ZX ns d hx hg he;refine⟨F',by unfold lK;rw[aA h];exact f,g,i,fun k=>?_⟩;rw[j k];by_cases e:k∈ns/\k≠0/\k≠(m.file:Int);rw[aA e,aA ⟨by simp[e.1],e.2⟩];rw[aB e,aB];rintro⟨a,b,l⟩;rcases xf.1 a with rfl|a
  exact h.elim b l;exact e ⟨a,b,l⟩;obtain⟨F',f,g,i,j⟩:=ZX ns {d with L:=V6 d.L n} hx (hg.del n) fun p o=>he p<|EM o;refine⟨F',?_,g,i,fun k=>?_⟩;unfold lK;rw[aB h,zY hx,aB<|by simp,Eg hx];exact f;rw[j k];simp only;rw[KW hg];by_cases e:k∈ns/\k≠0/\k≠(m.file:Int);rw[aA e,aA ⟨by simp[e.1],e.2⟩];rw[aB e];by_cases c:k=n;subst c;rw[aA rfl,aA ⟨by simp,fun e=>h<|.inl e,fun e=>h<|.inr e⟩];rw[aB c,aB];rintro⟨a,b⟩;rcases xf.1 a with a|a
  exact c a;exact e ⟨a,b⟩
def DG{F:Ym}(h:fM F)(a:∀n,qu F n=[]):F=[]:=by
 cases F with
 |nil=>rfl
 |cons p F=>exact absurd (a p.1)<|h.mem.1<|by simp
def DP{F:Ym}(h:fM F){a b:Int}(m:∀n,qu F n≠[]->n=a\/n=b)(f:a≠b):J6 F=((qu F a).length:Int)+((qu F b).length:Int):=by
 have j:=ZH (F:=F) a;have i:=ZH (F:=V6 F a) b;have k:qu (V6 F a) b=qu F b:=by rw[KW h,aB fun e=>f e.symm]
 have l:V6 (V6 F a) b=[]:=DG ((h.del a).del b) fun n=>by
  rw[KW<|h.del a,KW h];by_cases c:n=b;rw[aA c];rw[aB c];by_cases d:n=a;rw[aA d];rw[aB d];exact jr fun g=>(m n g).elim d c
 rw[l,k]at i;simp only[J6,DN,List.sum_nil]at i;simp only[J6]at j⊢;omega
section
variable {r:Sr} {s:Jo}
def Two(F:Ym)(n:Nat):Prop:=∃(pt sl:Zl) (f:Int),(f=10001\/f=10002)/\sl.length=116/\pt.length=n/\∀k,qu F k=if k=0 then sl else if k=f then pt else []
def zut(n:Int):Ye n=10001\/Ye n=10002:=by unfold Ye;split<;>simp
def Wy.jR(I:Wy r s)(hs:r.sn=bO s)(hP:s.P=[])(bn:s.bP<999)(bo:(Vf s.L).length<=16384):
  ∃r' s',r.jR s=(bO 0,r')/\r'.sn=bO s'/\Wy r' s'/\s'.L=s.L/\s'.P=[]/\s'.ep=s.ep/\s'.bP=s.bP+1/\r'.cnt=r.cnt/\tF r r'/\(qu r.d.L<|Ye s.named)=[]/\Two r'.d.L (Vf s.L).length:=by
 obtain⟨L0,xs,q,L,D⟩:=I.dsk;have bm:=I.base0;have ba:=I.rC;have V:=I.cnt;have bb:=zut s.named;have l:qu r.d.L (Ye s.named)=[]:=by
  refine jr fun bk=>?_;rcases D.ok.own _ bk with e|e|e
  omega;rcases P9 r.m r.d.L with T|⟨f,T,h0,hf,hl⟩
  rw[T]at e;omega;have Q:=D.named;have:(Y0 (Jp r.m [] 0 0 0) r.d.L).named=((iL<|qu r.d.L 0).file:Int):=by unfold Y0;rw[aB h0];rfl
  rw[this,<-hf,<-T,<-e]at Q;unfold Ye at Q bb;split at Q<;>omega
  have:=D.last;have:=D.base;omega
 obtain⟨mf,b⟩:∃mf,mf=r.mf s:=⟨_,rfl⟩;obtain⟨g,R⟩:∃g,g=(r.parts s).flatten:=⟨_,rfl⟩;obtain⟨o,J⟩:∃o,o=mf.bS (Jm r.m s.ep):=⟨_,rfl⟩;have bc:g.length=(Vf s.L).length:=by rw[R];exact Lq _ _ _
 have e1:mf.ep=s.ep:=by rw[b];rfl
 have T:mf.cnt=r.cnt:=by rw[b];rfl
 have e3:mf.last=r.mark:=by rw[b];rfl
 have e4:mf.base=s.last.toNat:=by rw[b];rfl
 have e5:mf.file=Ye s.named:=by rw[b];rfl
 have e6:mf.len=(Vf s.L).length:=by rw[b];rfl
 have e7:mf.root=J7 (r.parts s):=by rw[b];rfl
 have e8:mf.bP=s.bP.toNat:=by rw[b];rfl
 have e9:mf.op=r.op:=by rw[b];rfl
 have H:mf.ok:=⟨by rw[e1];exact I.ep,by rw[e9];have:=I.op;omega,by rw[T];omega,by rw[e8];omega,by rw[e4];omega,by rw[e5];omega,by rw[e6];omega,by rw[e7];exact Sd _<|by unfold Sr.parts;rw[zZ];have:=(DU<|Vf s.L).2.1;omega,by rw[e3];exact I.mark⟩;have x:o.length=116:=by rw[J];exact YR _ _ H.root H.last
 obtain⟨B,C,X,bg,be⟩:∃B,(if g=[]then r.d else(r.d.app mf.file g).mR mf.file)={r.d with L:=B}/\fM B/\jX B/\∀n:Int,qu B n=if n=(mf.file:Int)then g else qu r.d.L n:=by
  by_cases t:g=[];refine⟨r.d.L,by rw[aA t],I.gd,I.each,fun n=>?_⟩;by_cases e:n=(mf.file:Int);rw[aA e,e,t,e5];exact l;rw[aB e];rw[aB t,z_ I.nx,Ui<|by exact I.nx];have hi:i64 (mf.file:Int):=by unfold i64;omega
  have h5:=I.each.dat (mf.file:Int);have G:qu r.d.L (mf.file:Int)=[]:=by rw[e5];exact l
  refine⟨_,rfl,(I.gd.lay _ _).lay _ _,(I.each.lay hi ?_).lay hi ?_,fun n=>?_⟩;have ed:(Vu r.d.L (mf.file:Int)).1=[]:=G;rw[ed]at h5;rw[G];simp only[jk,jn]at h5⊢;omega;simp only;rw[uS I.gd,aA rfl,G];simp only[jk];omega;simp only;rw[uS<|I.gd.lay _ _,uS I.gd,aA rfl,G,uS I.gd];by_cases e:n=(mf.file:Int);rw[aA e,aA e];rfl;rw[aB e,aB e,aB e]
 obtain⟨z,E⟩:∃z,z=Yx B 0 (o,(o.length:Int)):=⟨_,rfl⟩;have Y:fM z:=by rw[E];exact X.lay _ _
 have bh:jX z:=by rw[E];exact bg.lay (by unfold i64;omega)<|by simp only;omega
 have U:∀n:Int,qu z n=if n=0 then o else qu B n:=fun n=>by rw[E,uS X]
 obtain⟨a,bd,Z,bi,bf⟩:=ZX (m:=mf) (Xs z) {r.d with L:=z} I.nx Y bh;have M:({r.d with L:=B}:Dk).nx=bN:=I.nx;have O:({r with sn:=bO {s with bP:=s.bP+1}}:Sr).lays mf g o=(bL,{r.d with L:=a}):=by
  have y:qB mf o {r.d with L:=B}=(bL,{r.d with L:=a}):=by
   unfold qB;rw[zY M,aB<|by simp,Fi M,<-E];exact bd
  unfold Sr.lays;by_cases t:g=[];rw[aA t]at C⊢;show qB mf o r.d=_;rw[C];exact y;rw[aB t]at C⊢;show(if r.d.stops=bL then _ else _)=_;rw[zY I.nx,aB<|by simp];show(if(r.d.app mf.file g).stops=bL then _ else qB mf o ((r.d.app mf.file g).mR mf.file))=_;rw[zY<|by rw[z_ I.nx];exact I.nx,aB<|by simp,C];exact y
 have k:∀n:Int,qu a n=if n=0 then o else if n=(mf.file:Int)then g else []:=fun n=>by
  rw[bf n];by_cases v:n=0;rw[aB<|by simp[v],aA v];show qu z n=o;rw[U,aA v];rw[aB v];by_cases w:n=(mf.file:Int);rw[aB<|by simp[w],aA w];show qu z n=g;rw[U,aB v,be,aA w];rw[aB w];by_cases c3:qu z n=[];split;rfl;exact c3;rw[aA ⟨Y.nums.2 c3,v,w⟩]
 have j:qu a 0=o:=by rw[k,aA rfl]
 have N:o≠[]:=fun e=>by rw[e]at x;cases x
 have K:iL (qu a 0)=mf:=by rw[j,J];exact Nk H _
 have hk:Y0 (Jp r.m [] 0 0 0) a=(Jp r.m [] 0 0 0).begun mf 0:=by
  unfold Y0;rw[aB<|by rw[j];exact N,K];rfl
 have hb:(Y0 (Jp r.m [] 0 0 0) a).base=(s.last.toNat:Int):=by rw[hk];show(mf.base:Int)=_;rw[e4]
 have S:Y6 mf a (Xz r.m mf.ep)=bO (fD s.L):=by
  have F:nN mf a=bO g:=by
   unfold nN;by_cases h0:0<mf.len;rw[aA h0,aA<|by omega,aA<|by omega,k,aB<|by omega,aA rfl];rw[aB h0];have:g=[]:=xa (by omega);rw[this]
  unfold Y6;rw[F];show sU mf (Xz r.m mf.ep) g=_;unfold sU;have W:Yq g=r.parts s:=by rw[R];exact LI _ _ _
  rw[aA<|by omega,W,aA e7,e1];have bl:J8 mf (Xz r.m s.ep) (r.parts s)=Yq (Vf s.L):=by
   unfold Sr.parts;refine zE (Xz r.m s.ep) (fun i=>?_) _;rw[b];rfl
  rw[bl,(DU _).2.2];exact zrl I.nd I.sK
 refine⟨{r with d:={r.d with L:=a},sn:=bO _},{s with bP:=s.bP+1,base:=s.last,named:=(Ye s.named:Int)},?_,rfl,?_,rfl,hP,rfl,rfl,rfl,⟨rfl,rfl,rfl,rfl,rfl⟩,l,g,o,mf.file,by omega,x,bc,k⟩;unfold Sr.jR;rw[aB<|by omega,aB,<-b,<-R,<-J,O,aA rfl];have h3:=I.fus;have h4:=I.room;have h5:r.roomFor (Vf s.L).length<=(Vf s.L).length+116:=by unfold Sr.roomFor;split<;>omega
 omega;refine⟨⟨fD s.L,[],Y0 (Jp r.m [] 0 0 0) a,fD s.L,?_⟩,I.mark,Z,bi,I.nx,I.room,I.lim,?_,ba,V,?_,?_,I.sK,I.len,I.ep,I.op,by rcases bb with e|e<;>simp[e],by have:=I.sh0;show 0<=s.bP+1;omega⟩;refine⟨⟨D.ok.m32,fun _=>?_,⟨fun h=>absurd h<|by rw[j];exact N,fun _=>?_⟩,jY.nil _ _ _,fun i hi=>absurd hi<|Wd _,?_,?_,fun n p=>?_⟩,?_,?_,?_,cX I.nd,?_,?_,?_⟩;show qJ r.m _<|qu a 0;rw[j,J,<-e1];refine zxs H ?_;rw[hk];exact Int.le_refl _;show Y6 (iL<|qu a 0) a _=_;rw[K];exact S;show qu a _=[];rw[hb,k,aB<|by simp;omega,aB<|by simp;omega];show(Y0 (Jp r.m [] 0 0 0) a).base.toNat+_<=_;rw[hb];simp;omega;have p:qu a n≠[]:=p;rw[k]at p;by_cases v:n=0;exact .inl v;rw[aB v]at p;by_cases w:n=(mf.file:Int);rw[aA w]at p;have bj:0<mf.len:=by have:=qb.2 p;omega
 refine .inr<|.inl ?_;show n=(Y0 (Jp r.m [] 0 0 0) a).dK;rw[hk,w];show _=if 0<mf.len then(mf.file:Int)else _
 rw[aA bj];rw[aB w]at p;exact absurd rfl p;show(Y0 (Jp r.m [] 0 0 0) a).cnt=r.cnt;rw[hk];exact T;show(Y0 (Jp r.m [] 0 0 0) a).tag=r.mark;rw[hk];exact e3;show(Y0 (Jp r.m [] 0 0 0) a).ep=s.ep;rw[hk];exact e1;show s.last=(Y0 (Jp r.m [] 0 0 0) a).base;rw[hb];omega;show s.last=s.last+(([]:List Zl).length:Int);simp;show(Ye s.named:Int)=(Y0 (Jp r.m [] 0 0 0) a).named;rw[hk,<-e5];rfl;have h2:=DP Z (fun n p=>by
  rw[k]at p;by_cases v:n=0;exact .inl v;rw[aB v]at p;by_cases w:n=(mf.file:Int);exact .inr w;rw[aB w]at p;exact absurd rfl p)<|by omega
 rw[j,k (mf.file:Int),aB<|by omega,aA rfl]at h2;show J6 a<=16500+1071*(r.cnt:Int);omega;show∀c∈s.P,mF c;exact I.P;exact I.P20
end
end
end P
namespace A
open Go
section
variable {P:aV} {ops:Array aD} {md:Region.Mode} {C:World->Prop}
end
end A
namespace P
open A.Tryq Go.RowKit
section
attribute [local go_sem] xe zv
end
section
variable {r:Sr} {s:Jo}
def Wy.swap{s':Jo}(I:Wy r s)(a:s'.L=s.L)(d:s'.ep=s.ep)(e:s'.base=s.base)(f:s'.last=s.last)(g:s'.named=s.named)(i:s'.bP=s.bP)(j:∀c∈s'.P,mF c)(b:s'.P.length<=20):Wy {r with sn:=bO s'} s':=by
 obtain⟨h,k,q,L,D⟩:=I.dsk;exact⟨⟨h,k,q,L,⟨D.ok,D.cnt,D.tag,D.ep.trans d.symm,by rw[a];exact D.same,by rw[e];exact D.base,by rw[f,e];exact D.last,by rw[g];exact D.named⟩⟩,I.mark,I.gd,I.each,I.nx,I.room,I.lim,I.fus,by rw[f];exact I.rC,I.cnt,j,b,by rw[a];exact I.sK,by rw[a];exact I.len,by rw[d];exact I.ep,I.op,by rw[g];exact I.named,by rw[i];exact I.sh0⟩
def xru{del:Bool}{S T:Zl}(h:(Ve S&&iW (if del then []else T))=bL):mF (if del then .del S else .put S T):=by
 rw[xl]at h;obtain⟨a,c⟩:=h;have a:0<S.length/\S.length<=16:=by simpa[Ve]using a
 have b:S≠[]:=qb.1 a.1;cases del with
 |true=>exact⟨b,a.2⟩
 |false=>exact⟨b,a.2,by simpa[iW]using c⟩
def fV.of{Bx:Nat}(I:Wy r s)(b:r.sn=bO s\/r.sn=bN)(a:∀x,r.own Bx x->2<x):fV Bx r where
 m:=I.m
 mark:=I.mark
 cnt:=by have:=I.cnt;omega
 op:=by have:=I.op;omega
 room:=by have:=I.room;omega
 files:=I.U9
 few:=by have:=I.few;have:=I.cnt;omega
 nx:=fun c h=>by rw[I.nx]at h;cases h
 own:=a
 bU:=fun i e=>by
  rcases b with b|b;rw[b]at e;cases e;have d:=I.base0;have f:=I.rC;have g:=I.cnt;exact⟨by omega,by omega,I.P20⟩;rw[b]at e;cases e
def SY(b:r.sn=bO s)(a:Zl):r.gets a=if Ve a=bK then(([],6):Zl×Int)else match Zh s.now a with
  |none=>([],8)
  |some v=>(v,0):=by unfold Sr.gets;rw[b];rfl
end
section
attribute [local go_sem] xe zv
def kU(B:Nat)(r:Sr)(w:Zy)(h:Jq w B r)(hk:mE r.d.L):
  Calls prog 13 #[zo B] w fun e w'=>∃v,e= .returned v/\w'.ownsRow w.heap.size 36 2 v (Xs r.d.L).length (sJ r.d.L<|Xs r.d.L)/\Nw w w':=by
 have a:=zl<|tL r.D r.d w h.disk hk;have c:w.cell? (zq B 2)=bO (zo r.D):=h.blk.cell 2 rfl;clear h hk;go_enter func13.1,Tryz.ntmps13
 go_wp2
 refine a.o.mono ?_;rintro e w1 ⟨v,rfl,b⟩
 go_wp2
 go_ret
 exact⟨v,rfl,b⟩
def uD{w:Zy}{B n:Nat}{v:Zv}{xs:Ze}(h:w.ownsRow B 36 2 v n xs)(b:0<n):∃g cap,v= .slice (bO ⟨g,0,bN⟩) n cap/\n<=cap/\∀i x,xs[i]?=bO x->w.cell? (zq g i)=bO x:=by
 rcases h.2 with⟨_,j⟩|⟨g,cap,c,f,l,d,b,k,m,e⟩;omega;refine⟨g,cap,f,b,fun i x a=>?_⟩;rw[<-e,Jf]at a;split at a;simp only[World.cell?,d];simpa using a;cases a
end
end P
end Go.Proofs.YtjnbhiamaabbgabGreatDoor
